package run

// chooser makes the choices of a run.
type chooser interface {
	choose(width int) uint32
}

// list chooses what it is told, and 0 behind the end.
type list struct {
	picks []uint32
	made  int
}

func (l *list) choose(width int) uint32 {
	l.made++
	if l.made > len(l.picks) {
		return 0
	}
	return uint32(uint64(l.picks[l.made-1]) % (1 << width))
}

// narrow is the greatest width of a choice that has no more than MaxPaths ways.
const narrow = 8

// tree goes through all ways to make the choices, one run after another.
type tree struct {
	path  []uint32 // what is chosen
	last  []uint32 // the greatest word of each choice
	at    int
	large bool
}

func (t *tree) choose(width int) uint32 {
	if width > narrow {
		t.large = true
		return 0
	}
	if t.at == len(t.path) {
		t.path = append(t.path, 0)
		t.last = append(t.last, 1<<width-1)
	}
	t.at++
	return t.path[t.at-1]
}

// turn prepares the next run, and tells whether there is one.
func (t *tree) turn() bool {
	t.at = 0
	for n := len(t.path); n > 0; n-- {
		if t.path[n-1] < t.last[n-1] {
			t.path, t.last = t.path[:n], t.last[:n]
			t.path[n-1]++
			return true
		}
	}
	return false
}
