package place

import (
	"slices"

	"backstay/api"
)

// mostItems is how many Symbols, and how many Wants, an object has.
const mostItems = 64

func isNumber(n int) bool {
	return n >= -1<<31 && n < 1<<31
}

// ValidateObject returns what is wrong with an object.
func ValidateObject(o api.Object) api.Errno {
	if len(o.Bytes) > mostBytes || len(o.Symbols) > mostItems || len(o.Wants) > mostItems {
		return api.ErrLarge
	}
	for _, s := range o.Symbols {
		if !isNumber(s.Name) || s.At < 0 || s.At > len(o.Bytes) {
			return api.ErrArg
		}
	}
	for i, w := range o.Wants {
		if w.At < 0 || w.At > len(o.Bytes)-4 || w.Kind != 0 && w.Kind != 1 || !isNumber(w.Name) || !isNumber(w.Plus) {
			return api.ErrArg
		}
		if slices.ContainsFunc(o.Wants[:i], func(other api.Want) bool { return max(other.At-w.At, w.At-other.At) < 4 }) {
			return api.ErrArg
		}
	}
	for i, s := range o.Symbols {
		if slices.ContainsFunc(o.Symbols[:i], func(other api.Symbol) bool { return other.Name == s.Name }) {
			return api.ErrRule
		}
	}
	return api.OK
}

// image is objects that are linked.
type image struct {
	base    int
	bytes   []byte
	places  []int
	symbols map[int]int
}

// gather puts objects one after another, and collects the addresses of their Symbols.
func gather(l []api.Object, base int) (*image, api.Errno) {
	if len(l) > api.MaxObject {
		return nil, api.ErrLarge
	}
	for _, o := range l {
		if e := ValidateObject(o); e != api.OK {
			return nil, e
		}
	}
	if base < 0 || base > api.MaxMemory || base%4 != 0 {
		return nil, api.ErrArg
	}
	m := &image{base: base, symbols: map[int]int{}}
	size := 0
	for _, o := range l {
		at := (size + 3) / 4 * 4
		m.places = append(m.places, at)
		size = at + len(o.Bytes)
		for _, s := range o.Symbols {
			if _, is := m.symbols[s.Name]; is {
				return nil, api.ErrRule
			}
			m.symbols[s.Name] = base + at + s.At
		}
	}
	m.bytes = make([]byte, size)
	for i, o := range l {
		copy(m.bytes[m.places[i]:], o.Bytes)
	}
	return m, api.OK
}

// isLarge tells whether an image does not fit.
func (m *image) isLarge() bool {
	return m.base+len(m.bytes) > api.MaxMemory
}

// fill writes what a Want of an object wants.
func (m *image) fill(object int, w api.Want) {
	at := m.places[object] + w.At
	n := m.symbols[w.Name] + w.Plus
	if w.Kind == 1 {
		n -= m.base + at + 4
	}
	for i := range 4 {
		m.bytes[at+i] = byte(n >> (8 * i))
	}
}

// Link returns the bytes of linked objects.
func Link(l []api.Object, base int) ([]byte, api.Errno) {
	m, e := gather(l, base)
	if e != api.OK {
		return nil, e
	}
	for _, o := range l {
		for _, w := range o.Wants {
			if _, is := m.symbols[w.Name]; !is {
				return nil, api.ErrNone
			}
		}
	}
	if m.isLarge() {
		return nil, api.ErrLarge
	}
	for i, o := range l {
		for _, w := range o.Wants {
			m.fill(i, w)
		}
	}
	return m.bytes, api.OK
}

// Find returns the address of a Symbol.
func Find(l []api.Object, base, name int) (int, bool, api.Errno) {
	m, e := gather(l, base)
	if e != api.OK {
		return 0, false, e
	}
	if m.isLarge() {
		return 0, false, api.ErrLarge
	}
	at, is := m.symbols[name]
	return at, is, api.OK
}
