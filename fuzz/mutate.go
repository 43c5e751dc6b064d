package fuzz

import (
	"slices"

	"backstay/api"
	"backstay/ir"
)

// change is an instruction that may stand in the place of another one.
type change struct {
	block, at int
	inst      api.Inst
}

// with returns an instruction with a change, in new memory.
func with(x api.Inst, what func(x *api.Inst)) api.Inst {
	x.Args = slices.Clone(x.Args)
	x.To = slices.Clone(x.To)
	what(&x)
	return x
}

// relatives are the operations that may stand in the place of one.
func relatives(op int) (int, int) {
	switch {
	case op >= api.Add && op <= api.AShr:
		return api.Add, api.AShr
	case op == api.ZExt || op == api.SExt:
		return api.ZExt, api.SExt
	case op == api.PAdd || op == api.PSub:
		return api.PAdd, api.PSub
	}
	return op, op
}

// variants returns instructions that differ from one in one thing. Not all of them are valid where it stands.
func variants(x api.Inst, values int) []api.Inst {
	var l []api.Inst
	first, last := relatives(x.Op)
	for op := first; op <= last; op++ {
		l = append(l, with(x, func(y *api.Inst) { y.Op = op }))
	}
	for _, flags := range []int{0, api.NoUnsigned, api.NoSigned, 3, api.Exact, api.Inside} {
		l = append(l, with(x, func(y *api.Inst) { y.Flags = flags }))
	}
	for _, by := range []uint32{1, 2, 4, 1 << 31} {
		l = append(l, with(x, func(y *api.Inst) { y.Imm ^= by }))
	}
	if x.Op != api.Phi {
		l = append(l, with(x, func(y *api.Inst) { slices.Reverse(y.Args) }))
		l = append(l, with(x, func(y *api.Inst) { slices.Reverse(y.To) }))
	}
	for i := range x.Args {
		for v := range values {
			l = append(l, with(x, func(y *api.Inst) { y.Args[i] = v }))
		}
	}
	return l
}

// Mutate changes one thing of a function; n says which.
func Mutate(f api.Func, n int) (api.Func, bool, api.Errno) {
	values, e := ir.Count(f)
	if e != api.OK {
		return api.Func{}, false, e
	}
	var l []change
	for b, block := range f.Blocks {
		for i, x := range block {
			for _, y := range variants(x, values) {
				l = append(l, change{b, i, y})
			}
		}
	}
	start := int(uint(n) % uint(len(l)))
	for k := range l {
		c := l[(start+k)%len(l)]
		g := ir.Copy(f)
		g.Blocks[c.block][c.at] = c.inst
		if !ir.Same(f, g) && ir.Validate(g) == api.OK {
			return g, true, api.OK
		}
	}
	return api.Func{}, false, api.OK
}
