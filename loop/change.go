package loop

import (
	"slices"

	"backstay/api"
	"backstay/edit"
	"backstay/ir"
)

// twins are the copies of the blocks and the instructions of a loop.
type twins struct {
	blocks map[*edit.Block]*edit.Block
	insts  map[*edit.Inst]*edit.Inst
}

// copy copies the blocks of the loop. Copies name copies where there are such; the blocks behind the loop know both.
func (r *ring) copy() *twins {
	t := &twins{map[*edit.Block]*edit.Block{}, map[*edit.Inst]*edit.Inst{}}
	for _, b := range r.blocks {
		t.blocks[b] = &edit.Block{}
		for _, x := range b.Insts {
			t.insts[x] = &edit.Inst{Op: x.Op, Width: x.Width, Flags: x.Flags, Imm: x.Imm}
		}
	}
	fill := func(b *edit.Block) {
		for _, x := range b.Insts {
			y := t.insts[x]
			for _, a := range x.Args {
				y.Args = append(y.Args, t.inst(a))
			}
			for _, to := range x.To {
				y.To = append(y.To, t.block(to))
			}
			t.blocks[b].Insts = append(t.blocks[b].Insts, y)
		}
	}
	for _, b := range r.blocks {
		fill(b)
		r.f.Blocks = append(r.f.Blocks, t.blocks[b])
		for _, to := range b.Last().To {
			if !r.has(to) {
				t.pair(to, b, b)
			}
		}
	}
	return t
}

func (t *twins) inst(x *edit.Inst) *edit.Inst {
	if y, is := t.insts[x]; is {
		return y
	}
	return x
}

func (t *twins) block(b *edit.Block) *edit.Block {
	if c, is := t.blocks[b]; is {
		return c
	}
	return b
}

// pair gives the Phis of a block a pair for the copy of a block from which it comes, as there is one for this.
func (t *twins) pair(to, from, like *edit.Block) {
	for _, phi := range to.Phis() {
		a := phi.Args[slices.Index(phi.To, like)]
		phi.Args = append(phi.Args, t.inst(a))
		phi.To = append(phi.To, t.block(from))
	}
}

// outside returns the blocks before the head that are not in the loop.
func (r *ring) outside() []*edit.Block {
	return slices.DeleteFunc(r.f.Before(r.head), r.has)
}

// turn lets a block go to another one in place of one.
func turn(b, old, fresh *edit.Block) {
	for i, to := range b.Last().To {
		if to == old {
			b.Last().To[i] = fresh
		}
	}
}

// close returns the function, with one value where there are two behind the loop.
func (r *ring) close(t *twins) (api.Func, api.Errno) {
	r.f.Prune()
	for _, b := range r.blocks {
		for _, x := range slices.Clone(b.Insts) {
			r.repair(t, x)
		}
	}
	if len(r.f.Blocks) > api.MaxBlocks || r.f.Size() > api.MaxInsts {
		return api.Func{}, api.ErrLarge
	}
	return r.f.Close(), api.OK
}

// Peel returns a function in which the first time round a loop is done by copies.
func Peel(f api.Func, head int) (api.Func, api.Errno) {
	if e := check(f, head); e != api.OK {
		return api.Func{}, e
	}
	r := open(f, head, true)
	outside := r.outside()
	t := r.copy()
	first := t.block(r.head)
	for _, b := range r.blocks {
		if slices.Contains(b.Last().To, r.head) {
			t.pair(r.head, b, b)
			first.Drop(t.block(b))
			turn(t.block(b), first, r.head)
		}
	}
	for _, b := range outside {
		r.head.Drop(b)
		turn(b, r.head, first)
	}
	return r.close(t)
}

// fixed returns a block of the loop that ends with a Branch by a value from outside, or nil.
func (r *ring) fixed() *edit.Block {
	for _, b := range r.blocks {
		x := b.Last()
		if x.Op == api.Branch && !r.defines(x.Args[0]) && r.isBefore(x.Args[0]) {
			return b
		}
	}
	return nil
}

// isBefore tells whether a value that is not of the loop is there when the head is entered.
func (r *ring) isBefore(x *edit.Inst) bool {
	if x.Op == edit.Param {
		return true
	}
	from := slices.IndexFunc(r.f.Blocks, func(b *edit.Block) bool { return slices.Contains(b.Insts, x) })
	return from >= 0 && r.f.Dominates(r.f.Blocks[from], r.head)
}

// door returns a block that is the only one from outside that goes to the head, and goes nowhere else.
func (r *ring) door() *edit.Block {
	outside := r.outside()
	if len(outside) == 1 && outside[0].Last().Op == api.Jump {
		return outside[0]
	}
	door := &edit.Block{}
	for _, phi := range r.head.Phis() {
		joined := &edit.Inst{Op: api.Phi, Width: phi.Width}
		for _, b := range outside {
			joined.Args = append(joined.Args, phi.Args[slices.Index(phi.To, b)])
			joined.To = append(joined.To, b)
		}
		door.Insts = append(door.Insts, joined)
		phi.Args = append(phi.Args, joined)
		phi.To = append(phi.To, door)
	}
	door.Insts = append(door.Insts, &edit.Inst{Op: api.Jump, To: []*edit.Block{r.head}})
	for _, b := range outside {
		r.head.Drop(b)
		turn(b, r.head, door)
	}
	r.f.Blocks = append(r.f.Blocks, door)
	return door
}

// Unswitch returns a function in which a Branch of a loop is asked before it.
func Unswitch(f api.Func, head int) (api.Func, bool, api.Errno) {
	if e := check(f, head); e != api.OK {
		return api.Func{}, false, e
	}
	r := open(f, head, true)
	b := r.fixed()
	if b == nil {
		return api.Func{}, false, api.OK
	}
	asked := b.Last()
	door := r.door()
	t := r.copy()
	answer := &edit.Inst{Op: api.Freeze, Width: 1, Args: []*edit.Inst{asked.Args[0]}}
	door.Insts = append(door.Insts[:len(door.Insts)-1], answer,
		&edit.Inst{Op: api.Branch, Args: []*edit.Inst{answer}, To: []*edit.Block{r.head, t.block(r.head)}})
	b.Jump(asked.To[0])
	t.block(b).Jump(t.block(asked.To[1]))
	g, e := r.close(t)
	return g, e == api.OK, e
}

// Reduce returns a function in which products of what is counted are counted themselves.
func Reduce(f api.Func) (api.Func, api.Errno) {
	if e := ir.Validate(f); e != api.OK {
		return api.Func{}, e
	}
	best := f
	for head := range f.Blocks {
		if check(f, head) != api.OK {
			continue
		}
		r := open(best, head, false)
		for _, phi := range slices.Clone(r.head.Phis()) {
			r.reduce(phi)
		}
		if r.f.Size() <= api.MaxInsts {
			best = r.f.Close()
		}
	}
	return ir.Copy(best), api.OK
}

// product returns an instruction of the loop that is a Phi times a Const, and the Const.
func (r *ring) product(phi *edit.Inst) (*edit.Inst, *edit.Inst, bool) {
	for _, b := range r.blocks {
		for _, x := range b.Insts {
			if x.Op != api.Mul || x.Flags != 0 {
				continue
			}
			for i, a := range x.Args {
				if other := x.Args[1-i]; a == phi && other.Op == api.Const {
					return x, other, true
				}
			}
		}
	}
	return nil, nil, false
}

// reduce makes a Phi in place of a product of one that counts.
func (r *ring) reduce(phi *edit.Inst) {
	start, step, is := r.count(phi)
	x, by, has := r.product(phi)
	if !is || !has {
		return
	}
	inside, outside, _ := r.sides()
	number := func(n uint32) *edit.Inst {
		c := &edit.Inst{Op: api.Const, Width: phi.Width, Imm: cut(phi.Width, uint64(n)*uint64(by.Imm))}
		outside.Insert(len(outside.Insts)-1, c)
		return c
	}
	product := &edit.Inst{Op: api.Phi, Width: phi.Width}
	next := &edit.Inst{Op: api.Add, Width: phi.Width, Args: []*edit.Inst{product, number(step)}}
	inside.Insert(len(inside.Insts)-1, next)
	product.Args = []*edit.Inst{next, number(start)}
	product.To = []*edit.Block{inside, outside}
	r.head.Insert(0, product)
	for _, b := range r.f.Blocks {
		b.Remove(x)
	}
	r.f.Replace(x, product)
}
