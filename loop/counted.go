package loop

import (
	"slices"

	"backstay/api"
	"backstay/edit"
	"backstay/flow"
	"backstay/ir"
)

// ring is a loop of a function that can be changed.
type ring struct {
	f      *edit.Func
	head   *edit.Block
	blocks []*edit.Block
}

func (r *ring) has(b *edit.Block) bool {
	return slices.Contains(r.blocks, b)
}

// check returns the errors of a function and a head.
func check(f api.Func, head int) api.Errno {
	g, e := ir.Graph(f)
	if e != api.OK {
		return e
	}
	_, e = flow.Loop(g, head)
	return e
}

// open returns the loop of a head, without the blocks that are not reached if they do not matter.
func open(f api.Func, head int, prune bool) *ring {
	g, _ := ir.Graph(f)
	loop, _ := flow.Loop(g, head)
	r := &ring{f: edit.Open(f)}
	r.head = r.f.Blocks[head]
	for _, b := range loop {
		r.blocks = append(r.blocks, r.f.Blocks[b])
	}
	if prune {
		r.f.Prune()
	}
	return r
}

// sides returns the block before a head that is in its loop, and the one that is not, if there are just these.
func (r *ring) sides() (*edit.Block, *edit.Block, bool) {
	before := r.f.Before(r.head)
	if len(before) != 2 || r.has(before[0]) == r.has(before[1]) {
		return nil, nil, false
	}
	if r.has(before[0]) {
		return before[0], before[1], true
	}
	return before[1], before[0], true
}

// step returns the Const that is added to a Phi each time, and whether there is one.
func (r *ring) step(phi, next *edit.Inst) (uint32, bool) {
	if next.Op != api.Add || next.Flags != 0 || !r.defines(next) {
		return 0, false
	}
	for i, a := range next.Args {
		if other := next.Args[1-i]; a == phi && other.Op == api.Const {
			return other.Imm, true
		}
	}
	return 0, false
}

// defines tells whether an instruction is in the loop.
func (r *ring) defines(x *edit.Inst) bool {
	return slices.ContainsFunc(r.blocks, func(b *edit.Block) bool { return slices.Contains(b.Insts, x) })
}

// count returns where a Phi of the head begins, and what is added to it each time.
func (r *ring) count(phi *edit.Inst) (uint32, uint32, bool) {
	inside, outside, is := r.sides()
	if !is || !slices.Contains(r.head.Phis(), phi) {
		return 0, 0, false
	}
	start := phi.Args[slices.Index(phi.To, outside)]
	step, is := r.step(phi, phi.Args[slices.Index(phi.To, inside)])
	return start.Imm, step, is && start.Op == api.Const
}

// isLeft tells whether the loop is left, or ended, in another block than the head.
func (r *ring) isLeft() bool {
	for _, b := range r.blocks {
		out := slices.ContainsFunc(b.Last().To, func(to *edit.Block) bool { return !r.has(to) })
		if b != r.head && (out || len(b.Last().To) == 0) {
			return true
		}
	}
	return false
}

// Counted returns how often a loop is gone round, if it counts.
func Counted(f api.Func, head int) (int, bool, api.Errno) {
	if e := check(f, head); e != api.OK {
		return 0, false, e
	}
	r := open(f, head, false)
	last := r.head.Last()
	if last.Op != api.Branch || !r.has(last.To[0]) || r.has(last.To[1]) || r.isLeft() {
		return 0, false, api.OK
	}
	compared := last.Args[0]
	if compared.Op != api.Cmp || !slices.Contains(r.head.Insts, compared) || compared.Args[1].Op != api.Const {
		return 0, false, api.OK
	}
	phi, bound := compared.Args[0], compared.Args[1].Imm
	start, step, is := r.count(phi)
	if !is {
		return 0, false, api.OK
	}
	return Trips(int(compared.Imm), phi.Width, start, step, bound)
}
