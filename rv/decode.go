package rv

import "backstay/api"

// code is what words have in common that are of one operation.
type code struct {
	op, f3, f7 int
}

// anything stands for a part of a word that does not tell the operation.
const anything = -1

// operations finds the operation by the parts of a word.
type operations map[code]int

func newOperations() operations {
	m := operations{}
	for op, f := range formats {
		c := code{int(f.op), int(f.f3), int(f.f7)}
		switch f.kind {
		case immediate, store, branch:
			c.f7 = anything
		case upper, jump:
			c.f3, c.f7 = anything, anything
		case system:
			c.f3 = anything
		}
		m[c] = op
	}
	return m
}

// find returns the operation of a word, if it may have one.
func (m operations) find(word uint32) (int, bool) {
	op, f3, f7 := int(word&0x7f), int(part(word, 12, 14, 0)), int(word>>25)
	for _, c := range [4]code{{op, f3, f7}, {op, f3, anything}, {op, anything, anything}, {op, anything, int(word >> 7)}} {
		if found, is := m[c]; is {
			return found, true
		}
	}
	return 0, false
}

// signed is a number of some bits with its sign.
func signed(n uint32, bits int) int {
	return int(int32(n<<(32-bits)) >> (32 - bits))
}

// decode returns the instruction of a word.
func (m operations) decode(word uint32) (api.RV, bool) {
	op, is := m.find(word)
	if !is {
		return api.RV{}, false
	}
	d, a, b := int(part(word, 7, 11, 0)), int(part(word, 15, 19, 0)), int(part(word, 20, 24, 0))
	x := api.RV{Op: op}
	switch formats[op].kind {
	case registers:
		x.D, x.A, x.B = d, a, b
	case immediate:
		x.D, x.A, x.Imm = d, a, signed(word>>20, 12)
	case shift:
		x.D, x.A, x.Imm = d, a, b
	case upper:
		x.D, x.Imm = d, int(word>>12)
	case store:
		x.A, x.B, x.Imm = a, b, signed(part(word, 7, 11, 0)|part(word, 25, 31, 5), 12)
	case branch:
		n := part(word, 8, 11, 1) | part(word, 25, 30, 5) | part(word, 7, 7, 11) | part(word, 31, 31, 12)
		x.A, x.B, x.Imm = a, b, signed(n, 13)
	case jump:
		n := part(word, 21, 30, 1) | part(word, 20, 20, 11) | part(word, 12, 19, 12) | part(word, 31, 31, 20)
		x.D, x.Imm = d, signed(n, 21)
	}
	if encode(x) != word {
		return api.RV{}, false
	}
	return x, true
}

// Decode returns the instruction of a word.
func Decode(word uint32) (api.RV, bool) {
	return newOperations().decode(word)
}

// Bytes returns the words of a list, the lowest byte first.
func Bytes(l []api.RV) ([]byte, api.Errno) {
	for _, x := range l {
		if e := Validate(x); e != api.OK {
			return nil, e
		}
	}
	var b []byte
	for _, x := range l {
		word := encode(x)
		b = append(b, byte(word), byte(word>>8), byte(word>>16), byte(word>>24))
	}
	return b, api.OK
}

// number is that of some bytes, the lowest one first.
func number(b []byte) uint32 {
	n := uint32(0)
	for i, x := range b {
		n |= uint32(x) << (8 * i)
	}
	return n
}

// List returns the instructions with which bytes begin, and how many bytes they have.
func List(b []byte) ([]api.RV, int) {
	m := newOperations()
	var l []api.RV
	for at := 0; at+4 <= len(b); at += 4 {
		x, is := m.decode(number(b[at : at+4]))
		if !is {
			break
		}
		l = append(l, x)
	}
	return l, 4 * len(l)
}
