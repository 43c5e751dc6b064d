package pass

import (
	"slices"

	"backstay/api"
	"backstay/bits"
	"backstay/edit"
)

// fold computes until nothing is left to compute.
func fold(f *edit.Func) {
	for changed := true; changed; {
		changed = false
		for _, b := range f.Blocks {
			for _, x := range b.Insts {
				n, is := compute(x)
				if is {
					*x = edit.Inst{Op: api.Const, Width: x.Width, Imm: n}
					changed = true
				}
			}
			if x := b.Last(); x.Op == api.Branch && x.Args[0].Op == api.Const {
				b.Jump(x.To[1-x.Args[0].Imm])
				changed = true
			}
		}
		f.Prune()
	}
}

// compute returns the number that an instruction makes of constants, if it is one.
func compute(x *edit.Inst) (uint32, bool) {
	if len(x.Args) == 0 || slices.ContainsFunc(x.Args, func(a *edit.Inst) bool { return a.Op != api.Const }) {
		return 0, false
	}
	a := x.Args[0]
	switch {
	case x.Op >= api.Add && x.Op <= api.AShr:
		n, is, _ := bits.Do(x.Op, x.Width, a.Imm, x.Args[1].Imm)
		broken, _ := bits.Breaks(x.Op, x.Flags, x.Width, a.Imm, x.Args[1].Imm)
		return n, is && !broken
	case x.Op == api.Cmp:
		if is, _ := bits.Compare(int(x.Imm), a.Width, a.Imm, x.Args[1].Imm); is {
			return 1, true
		}
		return 0, true
	case x.Op >= api.ZExt && x.Op <= api.Trunc:
		n, _ := bits.Extend(x.Op, a.Width, x.Width, a.Imm)
		return n, true
	}
	return 0, false
}

// isNumbered tells whether equal instructions of an operation make equal values.
func isNumbered(op int) bool {
	return op >= api.Const && op <= api.PSub || op == api.Addr || op == api.Gep
}

func isEqual(x, y *edit.Inst) bool {
	return x.Op == y.Op && x.Width == y.Width && x.Flags == y.Flags && x.Imm == y.Imm && slices.Equal(x.Args, y.Args)
}

// number looks for equal computations until there are none; those that are gone may leave others equal in any block.
func number(f *edit.Func) {
	for changed := true; changed; {
		changed = false
		for _, b := range f.Blocks {
			if first, second := twins(b); first != nil {
				f.Replace(second, first)
				b.Remove(second)
				changed = true
			}
		}
	}
}

// twins returns two instructions of a block that are equal, the earlier one first.
func twins(b *edit.Block) (*edit.Inst, *edit.Inst) {
	for i, x := range b.Insts {
		if !isNumbered(x.Op) {
			continue
		}
		for _, y := range b.Insts[i+1:] {
			if isEqual(x, y) {
				return x, y
			}
		}
	}
	return nil, nil
}

// dead keeps what leads to stores and to the ends of blocks.
func dead(f *edit.Func) {
	needed := map[*edit.Inst]bool{}
	var need func(x *edit.Inst)
	need = func(x *edit.Inst) {
		if needed[x] {
			return
		}
		needed[x] = true
		for _, a := range x.Args {
			need(a)
		}
	}
	for _, b := range f.Blocks {
		for _, x := range b.Insts {
			if x.Width == 0 {
				need(x)
			}
		}
	}
	for _, b := range f.Blocks {
		b.Insts = slices.DeleteFunc(b.Insts, func(x *edit.Inst) bool { return !needed[x] })
	}
}

// promote takes the loads of a function of one block out of slots that were stored to before.
func promote(f *edit.Func) {
	if len(f.Blocks) != 1 {
		return
	}
	b := f.Blocks[0]
	for slot := range f.Slots {
		if !isSimple(b, slot) {
			continue
		}
		var stored *edit.Inst
		for _, x := range slices.Clone(b.Insts) {
			switch {
			case x.Op == api.Store && isAddr(x.Args[0], slot):
				stored = x.Args[1]
			case x.Op == api.Load && isAddr(x.Args[0], slot) && stored != nil:
				f.Replace(x, stored)
				b.Remove(x)
			}
		}
	}
}

func isAddr(x *edit.Inst, slot int) bool {
	return x.Op == api.Addr && int(x.Imm) == slot
}

// isSimple tells whether a slot is only loaded from and stored to, with one Width.
func isSimple(b *edit.Block, slot int) bool {
	width := 0
	for _, x := range b.Insts {
		for i, a := range x.Args {
			if !isAddr(a, slot) {
				continue
			}
			w := x.Width
			if x.Op == api.Store {
				w = x.Args[1].Width
			}
			if x.Op != api.Load && x.Op != api.Store || i != 0 || width != 0 && width != w {
				return false
			}
			width = w
		}
	}
	return true
}
