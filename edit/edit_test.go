package edit_test

import (
	"testing"

	"backstay/api"
	"backstay/edit"
	"backstay/fuzz"
	"backstay/ir"
	"backstay/text"
)

// What is opened and closed is as it was; without the blocks that are not reached it is as ir.Prune tells.
func TestOpenAndClose(t *testing.T) {
	for seed := range 400 {
		l := make([]int, 120)
		s := seed
		for i := range l {
			s = s*6364136223846793005 + 1442695040888963407
			l[i] = s >> 33
		}
		f := fuzz.Make(l)
		if g := edit.Open(f).Close(); !ir.Same(f, g) {
			t.Error(seed, f, g)
		}
		g := edit.Open(f)
		g.Prune()
		if want, _ := ir.Prune(f); !ir.Same(want, g.Close()) {
			t.Error(seed, want, g.Close())
		}
	}
}

func TestChanges(t *testing.T) {
	f, e := text.Parse("func 1 : 1 :\n0:\nbranch 0 @1 @2\n1:\njump @3\n2:\njump @3\n3:\n4 = phi 1 0 0 @1 @2\nret 4\n")
	if e != api.OK {
		t.Fatal(e)
	}
	g := edit.Open(f)
	entry, end := g.Blocks[0], g.Blocks[3]
	if len(g.Before(end)) != 2 || len(end.Phis()) != 1 || g.Size() != 5 {
		t.Error("the function is not as it was")
	}
	one := &edit.Inst{Op: api.Const, Width: 1, Imm: 1}
	entry.Insert(0, one)
	g.Replace(g.Params[0], one)
	entry.Jump(g.Blocks[2])
	g.Prune()
	if s, e := text.Print(g.Close()); e != api.OK || s != "func 1 : 1 :\n0:\n1 = const 1 #1\njump @1\n1:\njump @2\n2:\n4 = phi 1 1 @1\nret 4\n" {
		t.Error(s, e)
	}
	g = edit.Open(f)
	g.Blocks[3].Insts = []*edit.Inst{{Op: api.Ret, Args: []*edit.Inst{g.Params[0]}}}
	g.Redirect(g.Blocks[1], g.Blocks[3])
	g.Redirect(g.Blocks[2], g.Blocks[3])
	g.Prune()
	if s, e := text.Print(g.Close()); e != api.OK || s != "func 1 : 1 :\n0:\njump @1\n1:\nret 0\n" {
		t.Error(s, e)
	}
}
