package trace

import "backstay/api"

// Encode returns the bytes of a table.
func Encode(l []api.Place) ([]byte, api.Errno) {
	if e := Validate(l); e != api.OK {
		return nil, e
	}
	var b []byte
	write := func(n int) {
		for ; n >= 128; n >>= 7 {
			b = append(b, byte(n&127|128))
		}
		b = append(b, byte(n))
	}
	write(len(l))
	before := 0
	for _, p := range l {
		for _, n := range [5]int{p.From - before, p.To - p.From, p.Var, p.Kind, p.N} {
			write(n)
		}
		before = p.From
	}
	return b, api.OK
}

// mostBits is more than any number of a table has.
const mostBits = 35

// reader reads numbers out of bytes.
type reader struct {
	b     []byte
	wrong bool
}

func (r *reader) next() int {
	n := 0
	for at := 0; at <= mostBits && len(r.b) > 0; at += 7 {
		group := int(r.b[0])
		r.b = r.b[1:]
		n |= group & 127 << at
		if group < 128 {
			r.wrong = r.wrong || group == 0 && at > 0
			return n
		}
	}
	r.wrong = true
	return 0
}

// Decode returns the table whose bytes are told.
func Decode(b []byte) ([]api.Place, api.Errno) {
	r := &reader{b: b}
	count := r.next()
	if r.wrong || count > mostPlaces {
		return nil, api.ErrSyntax
	}
	var l []api.Place
	from := 0
	for range count {
		var n [5]int
		for i := range n {
			n[i] = r.next()
		}
		from += n[0]
		l = append(l, api.Place{From: from, To: from + n[1], Var: n[2], Kind: n[3], N: n[4]})
	}
	if r.wrong || len(r.b) > 0 || Validate(l) != api.OK {
		return nil, api.ErrSyntax
	}
	return l, api.OK
}
