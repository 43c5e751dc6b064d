package run

import (
	"backstay/api"
	"backstay/bits"
)

// gep moves a pointer by the signed value of a number.
func (m *machine) gep(x api.Inst, args [3]api.Value) api.Value {
	by, _ := bits.Signed(m.width(x.Args[1]), args[1].N)
	p := args[0]
	p.N += uint32(by)
	if at := int(int32(p.N)); x.Flags == api.Inside && (at < 0 || at > m.f.Slots[p.Slot-1]) {
		return api.Value{Poison: true}
	}
	return p
}

// bytes returns the bytes of a slot at a pointer, and whether all are in it.
func (m *machine) bytes(n int, p api.Value) ([]int, bool) {
	if p.Poison {
		return nil, false
	}
	slot, at := m.mem[p.Slot-1], int(p.N)
	if at+n > len(slot) {
		return nil, false
	}
	return slot[at : at+n], true
}

func (m *machine) load(v, n int, p api.Value) bool {
	l, is := m.bytes(n, p)
	if !is {
		return false
	}
	x := api.Value{}
	for i, b := range l {
		if b < 0 {
			x.Poison = true
		} else {
			x.N |= uint32(b) << (8 * i)
		}
	}
	m.set(v, clean(x))
	return true
}

func (m *machine) store(n int, p, x api.Value) bool {
	l, is := m.bytes(n, p)
	if !is {
		return false
	}
	for i := range l {
		l[i] = int(x.N >> (8 * i) & 255)
		if x.Poison {
			l[i] = -1
		}
	}
	return true
}

// clean leaves nothing of a poison but that it is one.
func clean(x api.Value) api.Value {
	if x.Poison {
		return api.Value{Poison: true}
	}
	return x
}
