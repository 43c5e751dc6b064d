package ir

import (
	"slices"

	"backstay/api"
	"backstay/flow"
)

// family says what the instructions of an operation have in common.
type family int

const (
	none family = iota
	constant
	arithmetic
	comparison
	choice
	wider
	narrower
	lanes
	freeze
	source
	address
	moved
	load
	store
	phi
	jump
	branch
	ret
	trap
)

func familyOf(op int) family {
	switch {
	case op == api.Const:
		return constant
	case op >= api.Add && op <= api.AShr:
		return arithmetic
	case op == api.Cmp:
		return comparison
	case op == api.Select:
		return choice
	case op == api.ZExt, op == api.SExt:
		return wider
	case op == api.Trunc:
		return narrower
	case op == api.PAdd, op == api.PSub:
		return lanes
	case op == api.Freeze:
		return freeze
	case op == api.Poison, op == api.Any:
		return source
	case op >= api.Addr && op <= api.Trap:
		return address + family(op-api.Addr)
	}
	return none
}

func isWidth(w int) bool {
	return w >= 1 && w <= api.MaxWidth
}

func isLast(op int) bool {
	return op >= api.Jump && op <= api.Trap
}

func isMemory(w int) bool {
	return w == 8 || w == 16 || w == 32
}

func flagsFit(op, flags int) bool {
	switch op {
	case api.Add, api.Sub, api.Mul, api.Shl:
		return flags >= 0 && flags <= 3
	case api.UDiv, api.SDiv, api.LShr, api.AShr:
		return flags == 0 || flags == api.Exact
	case api.Gep:
		return flags == 0 || flags == api.Inside
	}
	return flags == 0
}

func immFits(f api.Func, x api.Inst) bool {
	switch familyOf(x.Op) {
	case constant:
		return isWidth(x.Width) && uint64(x.Imm) < 1<<x.Width
	case comparison:
		return x.Imm <= api.Sge
	case lanes:
		return isWidth(x.Width) && x.Imm >= 1 && int(x.Imm) < x.Width && x.Width%int(x.Imm) == 0
	case address:
		return int(x.Imm) < len(f.Slots)
	}
	return x.Imm == 0
}

func widthFits(x api.Inst) bool {
	switch familyOf(x.Op) {
	case comparison:
		return x.Width == 1
	case choice, phi:
		return isWidth(x.Width) || x.Width == api.Pointer
	case address, moved:
		return x.Width == api.Pointer
	case load:
		return isMemory(x.Width)
	case store, jump, branch, ret, trap:
		return x.Width == 0
	}
	return isWidth(x.Width)
}

// countsFit tells whether an instruction has as many Args and blocks as its operation wants.
func countsFit(f api.Func, x api.Inst) bool {
	args, to := 0, 0
	switch familyOf(x.Op) {
	case arithmetic, comparison, lanes, moved, store:
		args = 2
	case choice:
		args = 3
	case wider, narrower, freeze, load:
		args = 1
	case phi:
		return len(x.To) >= 1 && len(x.Args) == len(x.To)
	case jump:
		to = 1
	case branch:
		args, to = 1, 2
	case ret:
		if f.Ret > 0 {
			args = 1
		}
	}
	return len(x.Args) == args && len(x.To) == to
}

func blocksFit(f api.Func, x api.Inst) bool {
	for _, b := range x.To {
		if b < 0 || b >= len(f.Blocks) {
			return false
		}
	}
	return x.Op != api.Branch || x.To[0] != x.To[1]
}

func checkShapes(f api.Func) api.Errno {
	for _, w := range f.Params {
		if !isWidth(w) {
			return api.ErrArg
		}
	}
	if f.Ret != 0 && !isWidth(f.Ret) {
		return api.ErrArg
	}
	for _, s := range f.Slots {
		if s < 1 || s > api.MaxSize {
			return api.ErrArg
		}
	}
	for _, block := range f.Blocks {
		for _, x := range block {
			if familyOf(x.Op) == none || !widthFits(x) || !flagsFit(x.Op, x.Flags) || !immFits(f, x) {
				return api.ErrArg
			}
			if !countsFit(f, x) || !blocksFit(f, x) {
				return api.ErrArg
			}
		}
	}
	return api.OK
}

// checkOrder looks for a last one that is not the last, or is missing, and for a Phi behind others.
func checkOrder(block []api.Inst) api.Errno {
	if len(block) == 0 {
		return api.ErrRule
	}
	phis := false
	for i, x := range backwards(block) {
		if isLast(x.Op) != (i == len(block)-1) || phis && x.Op != api.Phi {
			return api.ErrRule
		}
		phis = x.Op == api.Phi
	}
	return api.OK
}

func checkBlocks(f api.Func) api.Errno {
	for _, block := range f.Blocks {
		if e := checkOrder(block); e != api.OK {
			return e
		}
	}
	g := graph(f)
	for b, block := range f.Blocks {
		before, _ := flow.Before(g, b)
		if b == 0 && len(before) > 0 {
			return api.ErrRule
		}
		for _, x := range block {
			if x.Op == api.Phi && !slices.Equal(x.To, before) {
				return api.ErrRule
			}
		}
	}
	return api.OK
}

// wants tells whether an Arg of an instruction may have a kind; first is the kind of the first Arg.
func wants(f api.Func, x api.Inst, place, kind, first int) bool {
	switch familyOf(x.Op) {
	case arithmetic, lanes, freeze, phi:
		return kind == x.Width
	case comparison:
		return isWidth(kind) && kind == first
	case choice:
		return place == 0 && kind == 1 || place > 0 && kind == x.Width
	case wider:
		return isWidth(kind) && kind < x.Width
	case narrower:
		return isWidth(kind) && kind > x.Width
	case moved:
		return place == 0 && kind == api.Pointer || place == 1 && isWidth(kind)
	case load:
		return kind == api.Pointer
	case store:
		return place == 0 && kind == api.Pointer || place == 1 && isMemory(kind)
	case branch:
		return kind == 1
	}
	return kind == f.Ret
}

func checkKinds(f api.Func) api.Errno {
	l := kinds(f)
	for _, block := range f.Blocks {
		for _, x := range block {
			for i, v := range x.Args {
				if v < 0 || v >= len(l) || x.Args[0] < 0 || x.Args[0] >= len(l) {
					return api.ErrType
				}
				if !wants(f, x, i, l[v], l[x.Args[0]]) {
					return api.ErrType
				}
			}
		}
	}
	return api.OK
}

// dominance asks each pair of reached blocks once at the most.
type dominance struct {
	graph [][]int
	asked [api.MaxBlocks][api.MaxBlocks]bool
	above [api.MaxBlocks][api.MaxBlocks]bool
}

// is tells whether a block is reached and dominates another reached one.
func (d *dominance) is(a, b int) bool {
	if !d.asked[a][b] {
		d.asked[a][b] = true
		d.above[a][b], _ = flow.Dominates(d.graph, a, b)
	}
	return d.above[a][b]
}

// checkPlaces looks for an Arg that is not there.
func checkPlaces(f api.Func) api.Errno {
	d := dominance{graph: graph(f)}
	reached, _ := flow.Reached(d.graph)
	for _, b := range reached {
		for i, x := range f.Blocks[b] {
			for k, v := range x.Args {
				if v < len(f.Params) {
					continue
				}
				from, at := where(f, v)
				there := from == b && at < i
				if x.Op == api.Phi {
					there = !slices.Contains(reached, x.To[k]) || d.is(from, x.To[k])
				} else if from != b {
					there = d.is(from, b)
				}
				if !there {
					return api.ErrState
				}
			}
		}
	}
	return api.OK
}
