package scan

import (
	"heron/api"
	"heron/least"
	"heron/sim"
	"heron/subset"
)

// road is a way to the rules that a line meets. Nothing is written into one once it is made, so several goroutines may go it at once.
type road interface {
	meets(line string) uint32
	tabled() bool
}

// roadOf is that of a machine that fits: its table, if that has no more than so many states, else a walk.
func roadOf(m api.NFA, states int) road {
	d, e := subset.Build(m, states)
	if e != api.OK {
		return &walkRoad{machine: m}
	}
	small, _ := least.Make(d) // never refused: what was built fits. It meets the same rules, and less of it is kept.
	return &tableRoad{table: small}
}

type tableRoad struct {
	table api.DFA // it fits
}

// meets goes through the table by itself, since subset.Run would ask anew at each line whether all of the table fits.
func (r *tableRoad) meets(line string) uint32 {
	s := 0
	for i := range len(line) { // by its length, since a range over the text would go by runes
		s = r.table.Next[s][r.table.Class[line[i]]]
	}
	return r.table.Ends[s]
}

func (r *tableRoad) tabled() bool { return true }

type walkRoad struct {
	machine api.NFA // it fits
}

func (r *walkRoad) meets(line string) uint32 {
	met, _ := sim.Line(r.machine, line)
	return met
}

func (r *walkRoad) tabled() bool { return false }
