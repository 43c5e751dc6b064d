package ir_test

import (
	"slices"
	"testing"

	"backstay/api"
	"backstay/fuzz"
	"backstay/ir"
)

func sum() api.Func {
	return api.Func{Params: []int{8, 8}, Ret: 8, Blocks: [][]api.Inst{{
		{Op: api.Add, Width: 8, Args: []int{0, 1}},
		{Op: api.Ret, Args: []int{2}},
	}}}
}

// ring counts from 0 to its parameter; block 3 is not reached.
func ring() api.Func {
	return api.Func{Params: []int{8}, Ret: 8, Blocks: [][]api.Inst{
		{{Op: api.Const, Width: 8}, {Op: api.Const, Width: 8, Imm: 1}, {Op: api.Jump, To: []int{1}}},
		{{Op: api.Phi, Width: 8, Args: []int{1, 7, 1}, To: []int{0, 2, 3}}, {Op: api.Cmp, Width: 1, Imm: api.Ult, Args: []int{4, 0}}, {Op: api.Branch, Args: []int{5}, To: []int{2, 4}}},
		{{Op: api.Add, Width: 8, Args: []int{4, 2}}, {Op: api.Jump, To: []int{1}}},
		{{Op: api.Jump, To: []int{1}}},
		{{Op: api.Ret, Args: []int{4}}},
	}}
}

// numbers makes a list of numbers from a seed.
func numbers(seed int) []int {
	l := make([]int, 120)
	for i := range l {
		seed = (seed*6364136223846793005 + 1442695040888963407)
		l[i] = seed >> 33
	}
	return l
}

func one(x ...api.Inst) api.Func {
	return api.Func{Params: []int{8, 1, 32}, Slots: []int{4}, Blocks: [][]api.Inst{append(x, api.Inst{Op: api.Ret})}}
}

// P3.1: each thing that may be wrong, and in which order.
func TestValidate(t *testing.T) {
	ret := []api.Inst{{Op: api.Ret}}
	many := slices.Repeat([]api.Inst{{Op: api.Any, Width: 1}}, 39)
	for i, c := range []struct {
		f api.Func
		e api.Errno
	}{
		{sum(), api.OK},
		{ring(), api.OK},
		{api.Func{}, api.ErrLarge},
		{api.Func{Params: []int{1, 1, 1, 99}, Blocks: [][]api.Inst{ret}}, api.ErrLarge},
		{api.Func{Slots: []int{1, 1, 1}, Blocks: [][]api.Inst{ret}}, api.ErrLarge},
		{api.Func{Blocks: slices.Repeat([][]api.Inst{ret}, 11)}, api.ErrLarge},
		{api.Func{Blocks: slices.Repeat([][]api.Inst{ret}, 10)}, api.OK},
		{api.Func{Blocks: [][]api.Inst{append(slices.Clone(many), ret...)}}, api.OK},
		{api.Func{Blocks: [][]api.Inst{append(slices.Clone(many), ret...), ret}}, api.ErrLarge},
		{api.Func{Params: []int{0}, Blocks: [][]api.Inst{ret}}, api.ErrArg},
		{api.Func{Params: []int{33}, Blocks: [][]api.Inst{ret}}, api.ErrArg},
		{api.Func{Ret: -1, Blocks: [][]api.Inst{ret}}, api.ErrArg},
		{api.Func{Ret: 33, Blocks: [][]api.Inst{ret}}, api.ErrArg},
		{api.Func{Slots: []int{9}, Blocks: [][]api.Inst{ret}}, api.ErrArg},
		{api.Func{Slots: []int{0}, Blocks: [][]api.Inst{ret}}, api.ErrArg},
		{api.Func{Ret: 8, Blocks: [][]api.Inst{ret}}, api.ErrArg},
		{api.Func{Blocks: [][]api.Inst{nil}}, api.ErrRule},
		{api.Func{Blocks: [][]api.Inst{{{Op: api.Any, Width: 1}}}}, api.ErrRule},
		{api.Func{Blocks: [][]api.Inst{{{Op: api.Trap}, {Op: api.Ret}}}}, api.ErrRule},
		{api.Func{Blocks: [][]api.Inst{{{Op: api.Jump, To: []int{0}}}}}, api.ErrRule},
		{api.Func{Blocks: [][]api.Inst{ret, {{Op: api.Jump, To: []int{0}}}}}, api.ErrRule},
		{api.Func{Blocks: [][]api.Inst{{{Op: api.Jump, To: []int{1}}}}}, api.ErrArg},
		{api.Func{Params: []int{1}, Blocks: [][]api.Inst{{{Op: api.Branch, Args: []int{0}, To: []int{1, 1}}}, ret}}, api.ErrArg},
		{one(api.Inst{Op: 33, Width: 8}), api.ErrArg},
		{one(api.Inst{Op: -1}), api.ErrArg},
		{one(api.Inst{Op: api.Const, Width: 8, Imm: 256}), api.ErrArg},
		{one(api.Inst{Op: api.Const, Width: 32, Imm: 1<<32 - 1}), api.OK},
		{one(api.Inst{Op: api.Const, Width: 33}), api.ErrArg},
		{one(api.Inst{Op: api.Const, Width: 8, To: []int{0}}), api.ErrArg},
		{one(api.Inst{Op: api.Add, Width: 8, Args: []int{0}}), api.ErrArg},
		{one(api.Inst{Op: api.Add, Width: 8, Imm: 1, Args: []int{0, 0}}), api.ErrArg},
		{one(api.Inst{Op: api.Add, Width: 8, Flags: 3, Args: []int{0, 0}}), api.OK},
		{one(api.Inst{Op: api.Add, Width: 8, Flags: 4, Args: []int{0, 0}}), api.ErrArg},
		{one(api.Inst{Op: api.UDiv, Width: 8, Flags: 4, Args: []int{0, 0}}), api.OK},
		{one(api.Inst{Op: api.UDiv, Width: 8, Flags: 1, Args: []int{0, 0}}), api.ErrArg},
		{one(api.Inst{Op: api.URem, Width: 8, Flags: 4, Args: []int{0, 0}}), api.ErrArg},
		{one(api.Inst{Op: api.Add, Width: 8, Args: []int{0, 1}}), api.ErrType},
		{one(api.Inst{Op: api.Add, Width: 8, Args: []int{0, 5}}), api.ErrType},
		{one(api.Inst{Op: api.Add, Width: 8, Args: []int{0, -1}}), api.ErrType},
		{one(api.Inst{Op: api.Add, Width: 8, Args: []int{0, 3}}), api.ErrState},
		{one(api.Inst{Op: api.Cmp, Width: 1, Imm: 9, Args: []int{2, 2}}), api.OK},
		{one(api.Inst{Op: api.Cmp, Width: 1, Imm: 10, Args: []int{2, 2}}), api.ErrArg},
		{one(api.Inst{Op: api.Cmp, Width: 2, Args: []int{2, 2}}), api.ErrArg},
		{one(api.Inst{Op: api.Cmp, Width: 1, Args: []int{2, 0}}), api.ErrType},
		{one(api.Inst{Op: api.Select, Width: 8, Args: []int{1, 0, 0}}), api.OK},
		{one(api.Inst{Op: api.Select, Width: 8, Args: []int{0, 0, 0}}), api.ErrType},
		{one(api.Inst{Op: api.ZExt, Width: 8, Args: []int{1}}), api.OK},
		{one(api.Inst{Op: api.ZExt, Width: 8, Args: []int{0}}), api.ErrType},
		{one(api.Inst{Op: api.Trunc, Width: 8, Args: []int{2}}), api.OK},
		{one(api.Inst{Op: api.Trunc, Width: 8, Args: []int{1}}), api.ErrType},
		{one(api.Inst{Op: api.PAdd, Width: 8, Imm: 4, Args: []int{0, 0}}), api.OK},
		{one(api.Inst{Op: api.PAdd, Width: 8, Imm: 8, Args: []int{0, 0}}), api.ErrArg},
		{one(api.Inst{Op: api.PSub, Width: 8, Imm: 3, Args: []int{0, 0}}), api.ErrArg},
		{one(api.Inst{Op: api.Addr, Width: api.Pointer, Imm: 1}), api.ErrArg},
		{one(api.Inst{Op: api.Addr, Width: api.Pointer}, api.Inst{Op: api.Gep, Width: api.Pointer, Flags: 8, Args: []int{3, 1}}), api.OK},
		{one(api.Inst{Op: api.Addr, Width: api.Pointer}, api.Inst{Op: api.Gep, Width: api.Pointer, Flags: 8, Args: []int{3, 3}}), api.ErrType},
		{one(api.Inst{Op: api.Addr, Width: api.Pointer}, api.Inst{Op: api.Gep, Width: api.Pointer, Flags: 1, Args: []int{3, 1}}), api.ErrArg},
		{one(api.Inst{Op: api.Addr, Width: api.Pointer}, api.Inst{Op: api.Cmp, Width: 1, Args: []int{3, 3}}), api.ErrType},
		{one(api.Inst{Op: api.Addr, Width: api.Pointer}, api.Inst{Op: api.Load, Width: 16, Args: []int{3}}), api.OK},
		{one(api.Inst{Op: api.Addr, Width: api.Pointer}, api.Inst{Op: api.Load, Width: 4, Args: []int{3}}), api.ErrArg},
		{one(api.Inst{Op: api.Addr, Width: api.Pointer}, api.Inst{Op: api.Store, Args: []int{3, 1}}), api.ErrType},
		{one(api.Inst{Op: api.Addr, Width: api.Pointer}, api.Inst{Op: api.Store, Args: []int{3, 2}}), api.OK},
		{one(api.Inst{Op: api.Freeze, Width: 8, Args: []int{0}}), api.OK},
		{one(api.Inst{Op: api.Phi, Width: 8}), api.ErrArg},
		{one(api.Inst{Op: api.Phi, Width: 8, Args: []int{0}, To: []int{0}}), api.ErrRule},
	} {
		if e := ir.Validate(c.f); e != c.e {
			t.Error(i, c.f, e, c.e)
		}
	}
}

func TestValidatePlaces(t *testing.T) {
	change := func(e api.Errno, what func(f *api.Func)) {
		t.Helper()
		f := ring()
		what(&f)
		if got := ir.Validate(f); got != e {
			t.Error(f, got, e)
		}
	}
	change(api.ErrRule, func(f *api.Func) { f.Blocks[1][0].To = []int{0, 3, 2} })
	change(api.ErrRule, func(f *api.Func) { f.Blocks[1][0].To[2], f.Blocks[1][0].To[1] = 4, 3 })
	change(api.ErrRule, func(f *api.Func) {
		f.Blocks[1][0], f.Blocks[1][1] = f.Blocks[1][1], f.Blocks[1][0]
	})
	change(api.ErrState, func(f *api.Func) { f.Blocks[4][0].Args[0] = 7 })
	change(api.ErrState, func(f *api.Func) { f.Blocks[1][0].Args[0] = 7 })
	change(api.OK, func(f *api.Func) { f.Blocks[1][0].Args[1] = 4 })
	change(api.OK, func(f *api.Func) { f.Blocks[1][0].Args[2] = 7 })
	change(api.ErrType, func(f *api.Func) { f.Blocks[1][0].Args[2] = 5 })
}

// P3.2
func TestAnswers(t *testing.T) {
	f := ring()
	if n, e := ir.Count(f); n != 11 || e != api.OK {
		t.Error(n, e)
	}
	for _, c := range []struct {
		v, b, i int
		is      bool
		kind    int
		users   []int
	}{{0, 0, 0, false, 8, []int{5}}, {1, 0, 0, true, 8, []int{4}}, {4, 1, 0, true, 8, []int{5, 7, 10}}, {5, 1, 1, true, 1, []int{6}}, {10, 4, 0, true, 0, nil}} {
		b, i, is, e := ir.Where(f, c.v)
		kind, _ := ir.Kind(f, c.v)
		users, _ := ir.Users(f, c.v)
		if b != c.b || i != c.i || is != c.is || e != api.OK || kind != c.kind || !slices.Equal(users, c.users) {
			t.Error(c, b, i, is, e, kind, users)
		}
	}
	for _, v := range []int{-1, 11} {
		_, _, _, e := ir.Where(f, v)
		_, e2 := ir.Kind(f, v)
		_, e3 := ir.Users(f, v)
		if e != api.ErrNone || e2 != api.ErrNone || e3 != api.ErrNone {
			t.Error(v, e, e2, e3)
		}
	}
	g, _ := ir.Graph(f)
	if !slices.EqualFunc(g, [][]int{{1}, {2, 4}, {1}, {1}, nil}, slices.Equal[[]int]) {
		t.Error(g)
	}
	for _, op := range []int{api.Freeze, api.Any, api.Poison} {
		h := sum()
		h.Blocks[0][0] = api.Inst{Op: op, Width: 8}
		if op == api.Freeze {
			h.Blocks[0][0].Args = []int{0}
		}
		if is, e := ir.IsPure(h); is != (op == api.Poison) || e != api.OK {
			t.Error(op, is, e)
		}
	}
	if is, _ := ir.IsPure(one()); is {
		t.Error("a slot is not pure")
	}
	if is, _ := ir.IsPure(api.Func{Blocks: [][]api.Inst{{{Op: api.Ret}}, {{Op: api.Trap}}}}); is {
		t.Error("a trap is not pure")
	}
	h := sum()
	h.Blocks[0][0].Op = api.Sub
	if is, e := ir.Alike(sum(), h); !is || e != api.OK {
		t.Error(is, e)
	}
	if is, _ := ir.Alike(sum(), f); is {
		t.Error("other parameters")
	}
	if _, e := ir.Alike(sum(), api.Func{}); e != api.ErrLarge {
		t.Error(e)
	}
}

// P3.3
func TestRenameAndPrune(t *testing.T) {
	f := ring()
	g, e := ir.Rename(f, []int{0, 4, 2, 1, 3})
	if e != api.OK || ir.Validate(g) != api.OK {
		t.Fatal(g, e)
	}
	want := api.Inst{Op: api.Phi, Width: 8, Args: []int{1, 1, 5}, To: []int{0, 1, 2}}
	if !slices.Equal(g.Blocks[4][0].Args, want.Args) || !slices.Equal(g.Blocks[4][0].To, want.To) {
		t.Error(g.Blocks[4][0])
	}
	if h, _ := ir.Rename(g, []int{0, 3, 2, 4, 1}); !ir.Same(f, h) {
		t.Error(h)
	}
	p, _ := ir.Prune(f)
	if len(p.Blocks) != 4 || len(p.Blocks[1][0].To) != 2 || p.Blocks[3][0].Args[0] != 4 {
		t.Error(p)
	}
	for _, to := range [][]int{nil, {0, 1, 2, 3}, {1, 0, 2, 3, 4}, {0, 1, 1, 3, 4}, {0, 1, 2, 3, 5}} {
		if h, e := ir.Rename(f, to); e != api.ErrArg || h.Blocks != nil {
			t.Error(to, e)
		}
	}
}

func TestRenameOfMany(t *testing.T) {
	for seed := range 400 {
		f := fuzz.Make(numbers(seed))
		if e := ir.Validate(f); e != api.OK {
			t.Fatal(seed, f, e)
		}
		n := len(f.Blocks)
		to, back := make([]int, n), make([]int, n)
		for b := 1; b < n; b++ {
			to[b] = 1 + (b+seed)%(n-1)
			back[to[b]] = b
		}
		g, e := ir.Rename(f, to)
		if e != api.OK || ir.Validate(g) != api.OK {
			t.Fatal(seed, g, e)
		}
		if h, _ := ir.Rename(g, back); !ir.Same(f, h) {
			t.Error(seed, f, h)
		}
		p, _ := ir.Prune(f)
		if q, _ := ir.Prune(p); ir.Validate(p) != api.OK || !ir.Same(p, q) {
			t.Error(seed, p, q)
		}
	}
}

func TestCopyAndSame(t *testing.T) {
	f := ring()
	g := ir.Copy(f)
	if !ir.Same(f, g) {
		t.Error(g)
	}
	g.Blocks[1][0].Args[0] = 0
	g.Params[0] = 7
	if f.Blocks[1][0].Args[0] != 1 || f.Params[0] != 8 {
		t.Error("the copy shares memory")
	}
	broken := api.Func{Params: []int{-5}, Blocks: [][]api.Inst{nil, {{Op: 99, Args: []int{}, To: []int{7}}}}}
	if h := ir.Copy(broken); !ir.Same(broken, h) {
		t.Error(h)
	}
	other := ir.Copy(broken)
	other.Blocks[0] = []api.Inst{}
	other.Blocks[1][0].Args = nil
	if !ir.Same(broken, other) {
		t.Error("nil and empty are one value")
	}
	other.Blocks[1][0].To[0] = 8
	if ir.Same(broken, other) {
		t.Error("another block")
	}
}
