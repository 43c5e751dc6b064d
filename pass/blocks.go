package pass

import (
	"slices"

	"backstay/api"
	"backstay/edit"
)

// isJump tells whether a block is a single Jump to another one.
func isJump(b *edit.Block) bool {
	return len(b.Insts) == 1 && b.Last().Op == api.Jump && b.Last().To[0] != b
}

// thread leaves out blocks that only go to another one without Phis.
func thread(f *edit.Func) {
	for {
		at := slices.IndexFunc(f.Blocks, func(b *edit.Block) bool {
			return b != f.Blocks[0] && isJump(b) && len(b.Last().To[0].Phis()) == 0
		})
		if at < 0 {
			return
		}
		f.Redirect(f.Blocks[at], f.Blocks[at].Last().To[0])
		f.Prune()
	}
}

// isEnd tells whether a block has nothing but stores and an end.
func isEnd(b *edit.Block) bool {
	op := b.Last().Op
	return (op == api.Ret || op == api.Trap) && !slices.ContainsFunc(b.Insts, func(x *edit.Inst) bool { return x.Width > 0 })
}

// merge makes one of equal ends until there are none.
func merge(f *edit.Func) {
	for i := 1; i < len(f.Blocks); i++ {
		for k := len(f.Blocks) - 1; k > i; k-- {
			b, c := f.Blocks[i], f.Blocks[k]
			if isEnd(b) && isEnd(c) && slices.EqualFunc(b.Insts, c.Insts, isEqual) {
				f.Redirect(c, b)
				f.Prune()
			}
		}
	}
}

// convert makes selects of branches until there is none that can be one.
func convert(f *edit.Func) {
	for {
		at := slices.IndexFunc(f.Blocks, func(b *edit.Block) bool { return isDiamond(f, b) })
		if at < 0 {
			return
		}
		join(f.Blocks[at])
		f.Prune()
	}
}

// isDiamond tells whether a block goes to two others that do nothing and meet again.
func isDiamond(f *edit.Func, b *edit.Block) bool {
	x := b.Last()
	if x.Op != api.Branch {
		return false
	}
	for _, arm := range x.To {
		if !isJump(arm) || len(f.Before(arm)) != 1 {
			return false
		}
	}
	end := x.To[0].Last().To[0]
	return end == x.To[1].Last().To[0] && len(end.Phis()) <= 1
}

// join lets the block of a diamond go to the end at once; what the Phi there tells apart is selected before.
func join(b *edit.Block) {
	x := b.Last()
	first, second := x.To[0], x.To[1]
	end := first.Last().To[0]
	for _, phi := range end.Phis() {
		yes := phi.Args[slices.Index(phi.To, first)]
		no := phi.Args[slices.Index(phi.To, second)]
		value := yes
		if yes != no {
			value = &edit.Inst{Op: api.Select, Width: phi.Width, Args: []*edit.Inst{x.Args[0], yes, no}}
			b.Insert(len(b.Insts)-1, value)
		}
		phi.Args = append(phi.Args, value)
		phi.To = append(phi.To, b)
	}
	b.Jump(end)
}
