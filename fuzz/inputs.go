package fuzz

import (
	"backstay/api"
	"backstay/ir"
)

// mostMade is how many inputs are made at the most.
const mostMade = 64

// mixer returns a function that tells numbers without an order that is seen; the same ones for each seed.
func mixer(seed int) func() uint32 {
	state := uint64(seed)*0x9e3779b97f4a7c15 + 1
	return func() uint32 {
		state = state*6364136223846793005 + 1442695040888963407
		return uint32(state >> 33)
	}
}

// word makes a word of w bits, often one at a corner.
func word(next func() uint32, w int) uint32 {
	all := uint32(1<<w - 1)
	corners := [8]uint32{0, 1, all, all >> 1, all>>1 + 1, next(), next(), next()}
	return corners[next()%8] & all
}

func input(f api.Func, k int) api.Input {
	next := mixer(k)
	in := api.Input{}
	for _, w := range f.Params {
		x := word(next, w)
		if k == 0 {
			x = 0
		}
		in.Args = append(in.Args, x)
	}
	for _, size := range f.Slots {
		slot := make([]int, size)
		for i := range slot {
			b := int(next()%288) - 16
			if k > 0 {
				slot[i] = max(b%256, -1)
			}
		}
		in.Mem = append(in.Mem, slot)
	}
	return in
}

// Inputs returns n inputs of a function, the first one with nothing but 0.
func Inputs(f api.Func, n int) ([]api.Input, api.Errno) {
	if e := ir.Validate(f); e != api.OK {
		return nil, e
	}
	if n < 0 || n > mostMade {
		return nil, api.ErrArg
	}
	var l []api.Input
	for k := range n {
		l = append(l, input(f, k))
	}
	return l, api.OK
}
