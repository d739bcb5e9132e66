package deriv

import (
	"reflect"
	"strings"
	"testing"

	"heron/api"
	"heron/ere"
	"heron/tree"
)

// P6.4: the trees that a line leads to are some for each place of the pattern, however many rests it has and however long the line is.
func TestTreesAreFew(t *testing.T) {
	for _, p := range []string{
		"(a?){250}a{250}", "((a{45}){45})", "((a|b){1,18}){1,20}", "((a|b?){1,15}){1,20}", "(((a?){0,5}){0,5}){0,30}x", ".*a.{250}.{250}.{250}x", "(.*a){100}.{100}x", "((a|ab|abc){2,}){1,40}x", "((a*b*)*c*)*x", "(^a|b$|(ab)*){100}x", "(((a|b)?(a|b)?){1,9}){1,9}x",
	} {
		n, _, e := ere.Parse(p)
		if e != api.OK {
			t.Fatalf("Parse(%q): %d", p, e)
		}
		for _, line := range []string{strings.Repeat("a", 3000), strings.Repeat("aab", 1000), strings.Repeat("abb", 1000)} {
			for _, way := range []func(*walk) bool{(*walk).whole, (*walk).search} {
				w := newWalk(n, line)
				way(w)
				if few := 3*ere.Places(n) + 10; len(w.trees) > few || cap(w.behind) > 2*few || cap(w.here) > 2*few {
					t.Errorf("%q, of %d places, leads to %d trees (%d, %d at once)", p, ere.Places(n), len(w.trees), cap(w.here), cap(w.behind))
				}
			}
		}
	}
}

// P6.3: what a keep makes of a tree is the plainest tree, as layer 5 makes it.
func TestLayIsPlain(t *testing.T) {
	for _, p := range []string{
		"", "^^a", "(^|a)^^", "(^^)(^a)", "a$$", "(a$)($b)", "()a()", "(a()(bc))d", "(a|b)|c|(d|ef|a)", "a|(^|$)|(a|^)", "(^){3}", "(^)*a", "($)+a", "(a|b){1}", "(a*){2,5}", "(a*)*", "(a+)*", "((a?)?)?", "(){7}", "a{0}b", "(a{0}|b)*", "((ab){1}(cd){1}){1}", "(ab|ab|cd)(ab|ab)",
	} {
		n, _, e := ere.Parse(p)
		want, f := tree.Plain(n)
		k := newKeep()
		if got := k.node(k.lay(n)); e != api.OK || f != api.OK || !reflect.DeepEqual(got, want) {
			t.Errorf("%q is laid as %v, want %v", p, got, want)
		}
	}
}
