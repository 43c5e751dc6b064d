// Package edit holds functions of middle code in a form that can be changed: instructions name each other instead of numbers. Passes and changes of loops share it.
package edit

import (
	"slices"

	"backstay/api"
)

// Param is the Op of a parameter.
const Param = -1

// Inst is an instruction, or a parameter.
type Inst struct {
	Op, Width, Flags int
	Args             []*Inst
	Imm              uint32
	To               []*Block
	number           int
}

// Block is a block; its last instruction says where it goes to.
type Block struct {
	Insts  []*Inst
	number int
}

// Func is a function that can be changed.
type Func struct {
	Params []*Inst
	Ret    int
	Slots  []int
	Blocks []*Block
}

// Open returns a valid function in a form that can be changed.
func Open(f api.Func) *Func {
	g := &Func{Ret: f.Ret, Slots: slices.Clone(f.Slots)}
	var values []*Inst
	for _, w := range f.Params {
		g.Params = append(g.Params, &Inst{Op: Param, Width: w})
	}
	values = append(values, g.Params...)
	for _, block := range f.Blocks {
		b := &Block{}
		for _, x := range block {
			b.Insts = append(b.Insts, &Inst{Op: x.Op, Width: x.Width, Flags: x.Flags, Imm: x.Imm})
		}
		g.Blocks = append(g.Blocks, b)
		values = append(values, b.Insts...)
	}
	for i, block := range f.Blocks {
		for k, x := range block {
			y := g.Blocks[i].Insts[k]
			for _, v := range x.Args {
				y.Args = append(y.Args, values[v])
			}
			for _, to := range x.To {
				y.To = append(y.To, g.Blocks[to])
			}
		}
	}
	return g
}

// number gives all blocks and values their numbers.
func (f *Func) number() {
	n := 0
	for _, p := range f.Params {
		p.number = n
		n++
	}
	for i, b := range f.Blocks {
		b.number = i
		for _, x := range b.Insts {
			x.number = n
			n++
		}
	}
}

// Close returns the function with numbers; the pairs of Phis are in order.
func (f *Func) Close() api.Func {
	f.number()
	g := api.Func{Ret: f.Ret, Slots: slices.Clone(f.Slots)}
	for _, p := range f.Params {
		g.Params = append(g.Params, p.Width)
	}
	for _, b := range f.Blocks {
		var l []api.Inst
		for _, x := range b.Insts {
			l = append(l, x.close())
		}
		g.Blocks = append(g.Blocks, l)
	}
	return g
}

func (x *Inst) close() api.Inst {
	y := api.Inst{Op: x.Op, Width: x.Width, Flags: x.Flags, Imm: x.Imm}
	if x.Op == api.Phi {
		x.sort()
	}
	for _, a := range x.Args {
		y.Args = append(y.Args, a.number)
	}
	for _, b := range x.To {
		y.To = append(y.To, b.number)
	}
	return y
}

// sort brings the pairs of a Phi into the order of the blocks.
func (x *Inst) sort() {
	order := make([]int, len(x.To))
	for i := range order {
		order[i] = i
	}
	slices.SortFunc(order, func(i, k int) int { return x.To[i].number - x.To[k].number })
	var args []*Inst
	var to []*Block
	for _, i := range order {
		args = append(args, x.Args[i])
		to = append(to, x.To[i])
	}
	x.Args, x.To = args, to
}

// Last returns the last instruction of a block.
func (b *Block) Last() *Inst {
	return b.Insts[len(b.Insts)-1]
}

// Phis returns the Phis of a block.
func (b *Block) Phis() []*Inst {
	n := 0
	for n < len(b.Insts) && b.Insts[n].Op == api.Phi {
		n++
	}
	return b.Insts[:n:n]
}

// Insert puts an instruction at a place of a block.
func (b *Block) Insert(at int, x *Inst) {
	b.Insts = slices.Insert(b.Insts, at, x)
}

// Remove takes an instruction out of its block.
func (b *Block) Remove(x *Inst) {
	b.Insts = slices.DeleteFunc(b.Insts, func(y *Inst) bool { return x == y })
}

// Replace puts a value in the place of another one in all Args.
func (f *Func) Replace(old, fresh *Inst) {
	for _, b := range f.Blocks {
		for _, x := range b.Insts {
			for i, a := range x.Args {
				if a == old {
					x.Args[i] = fresh
				}
			}
		}
	}
}

// Before returns the blocks that have a block as a successor.
func (f *Func) Before(b *Block) []*Block {
	var l []*Block
	for _, from := range f.Blocks {
		if slices.Contains(from.Last().To, b) {
			l = append(l, from)
		}
	}
	return l
}

// Drop takes the pairs of a block out of the Phis of another one.
func (b *Block) Drop(from *Block) {
	for _, x := range b.Phis() {
		if i := slices.Index(x.To, from); i >= 0 {
			x.To = slices.Delete(x.To, i, i+1)
			x.Args = slices.Delete(x.Args, i, i+1)
		}
	}
}

// Jump lets a block go to another one in any case; the Phis of blocks to which it went, and does not go any more, lose a pair.
func (b *Block) Jump(to *Block) {
	for _, old := range b.Last().To {
		if old != to {
			old.Drop(b)
		}
	}
	b.Insts[len(b.Insts)-1] = &Inst{Op: api.Jump, To: []*Block{to}}
}

// Redirect lets all blocks that go to a block go to another one, which has no Phis.
func (f *Func) Redirect(old, fresh *Block) {
	for _, b := range f.Blocks {
		x := b.Last()
		for i, to := range x.To {
			if to == old {
				x.To[i] = fresh
			}
		}
		if x.Op == api.Branch && x.To[0] == x.To[1] {
			b.Insts[len(b.Insts)-1] = &Inst{Op: api.Jump, To: []*Block{fresh}}
		}
	}
}

// Prune leaves out the blocks that are not reached; there may be more blocks than a valid function has.
func (f *Func) Prune() {
	reached := map[*Block]bool{}
	var visit func(b *Block)
	visit = func(b *Block) {
		if reached[b] {
			return
		}
		reached[b] = true
		for _, to := range b.Last().To {
			visit(to)
		}
	}
	visit(f.Blocks[0])
	var left []*Block
	for _, b := range f.Blocks {
		if reached[b] {
			left = append(left, b)
			continue
		}
		for _, to := range b.Last().To {
			to.Drop(b)
		}
	}
	f.Blocks = left
}

// Size returns the number of instructions.
func (f *Func) Size() int {
	n := 0
	for _, b := range f.Blocks {
		n += len(b.Insts)
	}
	return n
}

// Dominates reports whether each way from the entry to b has a in it.
func (f *Func) Dominates(a, b *Block) bool {
	seen := map[*Block]bool{a: true}
	var visit func(c *Block)
	visit = func(c *Block) {
		if seen[c] {
			return
		}
		seen[c] = true
		for _, to := range c.Last().To {
			visit(to)
		}
	}
	visit(f.Blocks[0])
	return a == b || !seen[b]
}
