package lines

// held is the bytes of a line that isn't whole; of one that is too long it has none.
type held struct {
	bytes []byte
}

// Held is how many bytes of a line that isn't whole are held.
func (h *held) Held() int { return len(h.bytes) }

func (h *held) text() string { return string(h.bytes) }

func (h *held) lay(b []byte) { h.bytes = append(h.bytes, b...) }

// letGo keeps no room either: a path whose line is too long is to hold nothing, however long that goes on.
func (h *held) letGo() { h.bytes = nil }
