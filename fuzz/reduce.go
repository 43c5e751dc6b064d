package fuzz

import (
	"slices"

	"backstay/api"
	"backstay/edit"
	"backstay/ir"
	"backstay/run"
)

// sure tells whether a function has given outcomes at an input.
func sure(f api.Func, in api.Input, want []api.Outcome) bool {
	l, e := run.All(f, in)
	return e == api.OK && slices.EqualFunc(l, want, run.SameOutcome)
}

// drop takes an instruction out; a value that is used is replaced by an Arg of its kind, the one with a number among these.
func drop(f *edit.Func, b *edit.Block, x *edit.Inst, way int) bool {
	switch {
	case x == b.Last():
		if x.Op != api.Branch || way > 1 {
			return false
		}
		b.Jump(x.To[way])
		f.Prune()
		return true
	case way == 0 && x.Width > 0:
		used := false
		for _, block := range f.Blocks {
			used = used || slices.ContainsFunc(block.Insts, func(y *edit.Inst) bool { return slices.Contains(y.Args, x) })
		}
		if used {
			return false
		}
	case way > 0:
		if way > len(x.Args) || x.Width == 0 || x.Args[way-1].Width != x.Width || x.Args[way-1] == x {
			return false
		}
		f.Replace(x, x.Args[way-1])
	}
	b.Remove(x)
	return true
}

// mostWays is how many ways there are to take an instruction out.
const mostWays = 4

// locate returns the block of an instruction, and its place there, where all are counted block after block.
func locate(f api.Func, n int) (int, int) {
	b := 0
	for n >= len(f.Blocks[b]) {
		n -= len(f.Blocks[b])
		b++
	}
	return b, n
}

// without takes an instruction out in the first way that does not change the outcomes; it returns the function as it is if there is none.
func without(f api.Func, n int, in api.Input, want []api.Outcome) api.Func {
	b, i := locate(f, n)
	for way := range mostWays {
		g := edit.Open(f)
		if !drop(g, g.Blocks[b], g.Blocks[b].Insts[i], way) {
			continue
		}
		if h := g.Close(); ir.Validate(h) == api.OK && sure(h, in, want) {
			return h
		}
	}
	return f
}

// shrink tries all instructions, the last one first.
func shrink(f api.Func, in api.Input, want []api.Outcome) api.Func {
	for n := size(f) - 1; n >= 0; n-- {
		if n < size(f) {
			f = without(f, n, in, want)
		}
	}
	return f
}

func size(f api.Func) int {
	n := 0
	for _, block := range f.Blocks {
		n += len(block)
	}
	return n
}

// Reduce returns a function with the same outcomes at an input, and less in it.
func Reduce(f api.Func, in api.Input) (api.Func, api.Errno) {
	want, e := run.All(f, in)
	if e != api.OK {
		return api.Func{}, e
	}
	g, _ := ir.Prune(f)
	for {
		h := shrink(g, in, want)
		if size(h) == size(g) {
			return h, api.OK
		}
		g = h
	}
}

// Narrow returns an input with the same outcomes, and less in it.
func Narrow(f api.Func, in api.Input) (api.Input, api.Errno) {
	want, e := run.All(f, in)
	if e != api.OK {
		return api.Input{}, e
	}
	best := api.Input{Args: slices.Clone(in.Args)}
	for _, slot := range in.Mem {
		best.Mem = append(best.Mem, slices.Clone(slot))
	}
	for i, x := range in.Args {
		for n := uint32(0); n < x; n = n*2 + 1 {
			best.Args[i] = n
			if sure(f, best, want) {
				break
			}
			best.Args[i] = x
		}
	}
	for s := range best.Mem {
		for i, b := range best.Mem[s] {
			best.Mem[s][i] = 0
			if !sure(f, best, want) {
				best.Mem[s][i] = b
			}
		}
	}
	return best, api.OK
}
