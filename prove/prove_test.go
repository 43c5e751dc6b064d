package prove_test

import (
	"slices"
	"testing"

	"backstay/api"
	"backstay/blast"
	"backstay/prove"
	"backstay/rule"
	"backstay/term"
)

func node(op, w int, imm uint32, args ...int) api.Node {
	return api.Node{Op: op, Width: w, Imm: imm, Args: args}
}

func flagged(op, flags int, args ...int) api.Node {
	return api.Node{Op: op, Flags: flags, Args: args}
}

var (
	x0  = node(api.Var, 0, 0)
	x1  = node(api.Var, 0, 1)
	h0  = node(api.Hole, 0, 0)
	h1  = node(api.Hole, 0, 1)
	one = node(api.Const, 0, 1)
	two = node(api.Const, 0, 2)
	all = node(api.Const, 0, 1<<32-1)
)

func op(o int, args ...int) api.Node {
	return flagged(o, 0, args...)
}

type named struct {
	r     api.Rule
	first int // the first width at which it is wrong, or 0
}

func rules() []named {
	double := []api.Node{x0, op(api.Add, 0, 0)}
	return []named{
		{api.Rule{Left: double, Right: []api.Node{x0, two, op(api.Mul, 0, 1)}}, 0},
		{api.Rule{Left: []api.Node{x0, two, op(api.Mul, 0, 1)}, Right: []api.Node{x0, one, op(api.Shl, 0, 1)}}, 1},
		{api.Rule{Left: []api.Node{x0, x1, flagged(api.Add, 2, 0, 1)}, Right: []api.Node{x0, x1, op(api.Add, 0, 1)}}, 0},
		{api.Rule{Left: []api.Node{x0, x1, op(api.Add, 0, 1)}, Right: []api.Node{x0, x1, flagged(api.Add, 2, 0, 1)}}, 1},
		{api.Rule{Left: []api.Node{x0, h0, op(api.Mul, 0, 1)}, Right: []api.Node{x0, h0, op(api.Trail, 1), op(api.Shl, 0, 2)}, Pre: []api.Cond{{Kind: 1}}}, 0},
		{api.Rule{Left: []api.Node{x0, h0, op(api.Mul, 0, 1)}, Right: []api.Node{x0, h0, op(api.Trail, 1), op(api.Shl, 0, 2)}}, 1},
		{api.Rule{Left: []api.Node{x0, h0, op(api.UDiv, 0, 1)}, Right: []api.Node{x0, h0, op(api.Trail, 1), op(api.LShr, 0, 2)}, Pre: []api.Cond{{Kind: 1}}}, 0},
		{api.Rule{Left: []api.Node{x0, op(api.UDiv, 0, 0)}, Right: []api.Node{one}}, 0},
		{api.Rule{Left: []api.Node{x0, op(api.SDiv, 0, 0)}, Right: []api.Node{one}}, 0},
		{api.Rule{Left: []api.Node{one}, Right: []api.Node{one, node(api.Const, 0, 0), op(api.UDiv, 0, 1), op(api.Or, 0, 2)}}, 1},
		{api.Rule{Left: []api.Node{x0, x1, op(api.Shl, 0, 1), flagged(api.LShr, 4, 0, 1), op(api.Sub, 2, 3)}, Right: []api.Node{x0, x1, op(api.Shl, 0, 1), op(api.LShr, 0, 1), op(api.Sub, 2, 3)}}, 0},
		{api.Rule{Left: []api.Node{x0, h0, flagged(api.UDiv, 4, 0, 1), op(api.Mul, 2, 1)}, Right: []api.Node{x0}, Pre: []api.Cond{{Kind: 3}}}, 0},
		{api.Rule{Left: []api.Node{x0, h0, op(api.UDiv, 0, 1), op(api.Mul, 2, 1)}, Right: []api.Node{x0}, Pre: []api.Cond{{Kind: 3}}}, 2},
		{api.Rule{Left: []api.Node{x0, h0, flagged(api.SDiv, 4, 0, 1), flagged(api.Mul, 3, 2, 1)}, Right: []api.Node{x0}}, 0},
		{api.Rule{Left: []api.Node{x0, h0, flagged(api.Shl, 3, 0, 1), flagged(api.AShr, 4, 2, 1)}, Right: []api.Node{x0}, Pre: []api.Cond{{Kind: 2}}}, 0},
		{api.Rule{Left: []api.Node{x0, h0, op(api.Shl, 0, 1), op(api.AShr, 2, 1)}, Right: []api.Node{x0}, Pre: []api.Cond{{Kind: 2}}}, 2},
		{api.Rule{Left: []api.Node{x0, h0, op(api.Sub, 0, 1), x0, node(api.Cmp, 1, api.Ne, 2, 3)}, Right: []api.Node{node(api.Const, 1, 1)}, Pre: []api.Cond{{Kind: 0}}}, 0},
		{api.Rule{Left: []api.Node{x0, h0, h1, op(api.And, 0, 1), op(api.And, 3, 2)}, Right: []api.Node{x0, h1, op(api.And, 0, 1)}, Pre: []api.Cond{{Kind: 4, Imm: 0}}}, 2},
		{api.Rule{Left: []api.Node{x0, x1, node(api.Cmp, 1, api.Slt, 0, 1), op(api.Select, 2, 0, 1)}, Right: []api.Node{x0, x1, node(api.Cmp, 1, api.Sgt, 0, 1), op(api.Select, 2, 1, 0)}}, 0},
		{api.Rule{Left: []api.Node{x0, all, op(api.Xor, 0, 1)}, Right: []api.Node{x0, all, op(api.Sub, 1, 0)}}, 0},
	}
}

// environments tells all environments of words of w bits, where all of them do not matter at the greatest width.
func environments(w int, check func(env []uint32)) {
	last := uint32(1) << w
	for a := range last {
		for b := range last {
			for c := range last {
				check([]uint32{a, b, c, (a + b + c) % last})
				check([]uint32{a, b, c, 0})
			}
		}
	}
}

// P12.1
func TestErrors(t *testing.T) {
	good := rules()[0].r
	wide := api.Rule{Left: []api.Node{x0, node(api.Const, 9, 1), node(api.Const, 1, 1), op(api.Select, 2, 0, 0)}, Right: []api.Node{x0}}
	for i, c := range []struct {
		r         api.Rule
		w         int
		e, holds  api.Errno
		withClaim bool
	}{
		{api.Rule{}, 0, api.ErrLarge, api.ErrLarge, true},
		{good, 0, api.ErrArg, api.ErrArg, true},
		{good, 5, api.ErrArg, api.ErrArg, true},
		{good, 4, api.OK, api.OK, true},
		{wide, 5, api.ErrArg, api.ErrArg, true},
		{wide, 4, api.ErrLarge, api.OK, true},
	} {
		_, e1 := prove.Meeting(c.r, c.w)
		_, e2 := prove.Debt(c.r, c.w)
		_, _, e3 := prove.Prove(c.r, c.w)
		_, _, e4 := prove.Refute(c.r, c.w)
		_, _, e5 := prove.UpTo(c.r, c.w)
		for k, e := range []api.Errno{e1, e2, e3, e4, e5} {
			if e != c.e {
				t.Error(i, k, e)
			}
		}
		if e := prove.Check(c.r, c.w, nil); e != c.e && !(c.e == api.OK && e == api.ErrProof) {
			t.Error(i, e)
		}
		if _, e := prove.Holds(c.r, c.w, make([]uint32, 4)); e != c.holds {
			t.Error(i, e)
		}
	}
	for _, env := range [][]uint32{nil, {0, 0, 0}, {4, 0, 0, 0}, {0, 0, 0, 4}} {
		if _, e := prove.Holds(good, 2, env); e != api.ErrArg {
			t.Error(env, e)
		}
	}
	for i, c := range []struct {
		t []api.Node
		e api.Errno
	}{
		{nil, api.ErrLarge},
		{[]api.Node{node(api.Var, 8, 4)}, api.ErrArg},
		{[]api.Node{node(api.Var, 9, 0)}, api.ErrLarge},
		{[]api.Node{node(api.Var, 9, 0), node(api.Var, 8, 1)}, api.ErrLarge},
		{[]api.Node{node(api.Var, 8, 0)}, api.OK},
	} {
		_, e1 := prove.Defined(c.t)
		_, e2 := prove.Clean(c.t)
		if e1 != c.e || e2 != c.e {
			t.Error(i, e1, e2)
		}
	}
}

// P12.2: Defined and Clean are as rule.Value says.
func TestConditions(t *testing.T) {
	v, u := node(api.Var, 4, 0), node(api.Var, 4, 1)
	for o := api.Add; o <= api.AShr; o++ {
		for flags := range 5 {
			f := flagged(o, flags, 0, 1)
			f.Width = 4
			l := []api.Node{v, u, f}
			if rule.ValidateFlagged(l) != api.OK {
				continue
			}
			more := append(slices.Clone(l), node(api.UDiv, 4, 0, 0, 2), node(api.Shl, 4, 0, 3, 1))
			agree(t, l)
			agree(t, more)
		}
	}
	d, e := prove.Defined([]api.Node{node(api.Var, 4, 0)})
	if n, _ := term.Eval(d, make([]uint32, 4)); n != 1 || e != api.OK {
		t.Error(d, e)
	}
}

func agree(t *testing.T, l []api.Node) {
	t.Helper()
	d, e := prove.Defined(l)
	c, e2 := prove.Clean(l)
	if e != api.OK || e2 != api.OK {
		t.Fatal(l, e, e2)
	}
	for k := range uint32(256) {
		env := []uint32{k >> 4, k & 15, 0, 0}
		_, state, _ := rule.Value(l, env)
		defined, _ := term.Eval(d, env)
		clean, _ := term.Eval(c, env)
		if (defined == 1) != (state < 2) || (clean == 1) != (state == 0) {
			t.Error(l, env, state, defined, clean)
		}
	}
}

// P12.2 and P12.3
func TestRules(t *testing.T) {
	for i, x := range rules() {
		for w := 1; w <= 4; w++ {
			debt, e := prove.Debt(x.r, w)
			meeting, e2 := prove.Meeting(x.r, w)
			if e != api.OK || e2 != api.OK {
				t.Fatal(i, w, e, e2)
			}
			right := true
			environments(w, func(env []uint32) {
				holds, _ := prove.Holds(x.r, w, env)
				pays, _ := term.Eval(debt, env)
				met, _ := term.Eval(meeting, env)
				meets, _ := rule.Meets(x.r, w, env[2:])
				if holds != (pays == 1) || meets != (met == 1) || !meets && !holds {
					t.Error(i, w, env, holds, pays, meets, met)
				}
				right = right && holds
			})
			l, is, e := prove.Prove(x.r, w)
			env, wrong, e2 := prove.Refute(x.r, w)
			if is != right || wrong == right || e != api.OK || e2 != api.OK {
				t.Error(i, w, right, is, wrong, e, e2)
			}
			if e := prove.Check(x.r, w, l); is != (e == api.OK) {
				t.Error(i, w, e)
			}
			if holds, e := prove.Holds(x.r, w, env); wrong && (holds || e != api.OK) {
				t.Error(i, w, env, e)
			}
			first, is, e := prove.UpTo(x.r, w)
			if want := x.first > 0 && x.first <= w; is != want || want && first != x.first || e != api.OK {
				t.Error(i, w, first, is, e)
			}
		}
		if is, _ := prove.Algebra(x.r); is && x.first > 0 {
			t.Error(i, "algebra proves what is wrong")
		}
	}
}

// The claims of large rules are not too large.
func TestLargeRules(t *testing.T) {
	for o := api.Add; o <= api.AShr; o++ {
		flags := []int{0, 3, 4}
		for _, f := range flags {
			p := []api.Node{x0, h0, h1}
			for i := range 5 {
				p = append(p, flagged(o, f, 2+i, i))
			}
			r := api.Rule{Left: p[:8], Right: p[:4], Pre: []api.Cond{{Kind: 1}, {Kind: 2, Hole: 1}, {Kind: 3}, {Kind: 4, Imm: 7}}}
			if rule.Validate(r) != api.OK {
				continue
			}
			for w := 1; w <= 4; w++ {
				if debt, e := prove.Debt(r, w); e != api.OK || term.Validate(debt) != api.OK {
					t.Error(o, f, w, e)
				}
			}
		}
	}
}

// P12.4
func TestAlgebra(t *testing.T) {
	minus := []api.Node{x0, all, op(api.Xor, 0, 1)}
	for i, c := range []struct {
		left, right []api.Node
		want        bool
	}{
		{[]api.Node{x0, op(api.Add, 0, 0)}, []api.Node{x0, two, op(api.Mul, 0, 1)}, true},
		{[]api.Node{x0, x1, op(api.Add, 0, 1), op(api.Sub, 0, 1), op(api.Mul, 2, 3)}, []api.Node{x0, op(api.Mul, 0, 0), x1, op(api.Mul, 2, 2), op(api.Sub, 1, 3)}, true},
		{[]api.Node{x0, x1, op(api.Add, 0, 1), op(api.Add, 0, 1), op(api.Mul, 2, 3)}, []api.Node{x0, op(api.Mul, 0, 0), x1, op(api.Mul, 2, 2), op(api.Add, 1, 3)}, false},
		{minus, []api.Node{all, x0, op(api.Xor, 0, 1)}, true},
		{minus, []api.Node{all, x0, op(api.Sub, 0, 1)}, true},
		{[]api.Node{all, op(api.Xor, 0, 0)}, []api.Node{node(api.Const, 0, 0)}, true},
		{[]api.Node{x0, two, op(api.Mul, 0, 1)}, []api.Node{x0, one, op(api.Shl, 0, 1)}, false},
		{[]api.Node{x0, h0, op(api.Mul, 0, 1)}, []api.Node{h0, x0, op(api.Mul, 0, 1)}, true},
		{[]api.Node{x0, h0, op(api.Mul, 0, 1)}, []api.Node{h0, op(api.Trail, 0)}, false},
		{[]api.Node{x0, op(api.Sub, 0, 0)}, []api.Node{node(api.Const, 0, 0)}, true},
		{[]api.Node{x0, two, op(api.Shl, 0, 1), x0}, []api.Node{x0, node(api.Const, 0, 0), op(api.Add, 0, 1)}, true},
		{[]api.Node{x0, flagged(api.Add, 1, 0, 0)}, []api.Node{x0, two, op(api.Mul, 0, 1)}, false},
		{[]api.Node{x0, op(api.And, 0, 0)}, []api.Node{x0, op(api.And, 0, 0)}, false},
	} {
		is, e := prove.Algebra(api.Rule{Left: c.left, Right: c.right})
		if is != c.want || e != api.OK {
			t.Error(i, is, e)
		}
	}
	if _, e := prove.Algebra(api.Rule{}); e != api.ErrLarge {
		t.Error(e)
	}
}

func TestNormal(t *testing.T) {
	text := func(p ...api.Node) string {
		t.Helper()
		s, is, e := prove.Normal(p)
		if !is || e != api.OK {
			t.Fatal(p, s, is, e)
		}
		return s
	}
	if text(x0, two, op(api.Shl, 0, 1)) != text(x0, node(api.Const, 0, 4), op(api.Mul, 0, 1)) {
		t.Error("shifted by 2")
	}
	if text(x0) == text(x1) || text(h0) == text(x0) || text(h0) == text(h1) || text(one) == text(all) {
		t.Error("unknowns are different")
	}
	power := func(n int, first ...api.Node) []api.Node {
		for range n {
			first = append(first, op(api.Mul, len(first)-1, len(first)-1))
		}
		return first
	}
	big := node(api.Const, 0, 1<<20)
	for i, c := range []struct {
		p  []api.Node
		is bool
		e  api.Errno
	}{
		{nil, false, api.ErrLarge},
		{[]api.Node{node(api.Var, 0, 2)}, false, api.ErrArg},
		{[]api.Node{h0, op(api.Trail, 0)}, false, api.ErrArg},
		{[]api.Node{x0, node(api.Const, 8, 1), op(api.Add, 0, 1)}, false, api.ErrType},
		{[]api.Node{x1, x0}, true, api.OK},
		{[]api.Node{x0, x1, op(api.Xor, 0, 1)}, false, api.OK},
		{[]api.Node{x0, node(api.Const, 0, 8), op(api.Shl, 0, 1)}, true, api.OK},
		{[]api.Node{x0, node(api.Const, 0, 9), op(api.Shl, 0, 1)}, false, api.OK},
		{[]api.Node{x0, x0, node(api.Cmp, 1, 0, 0, 1)}, false, api.OK},
		{power(1, big), true, api.OK},                                              // 2^40
		{append(power(1, big), one, op(api.Add, 1, 2)), false, api.OK},             // 2^40 + 1
		{append(power(1, big), two, op(api.Mul, 1, 2)), false, api.OK},             // 2^41
		{append(power(2, big), op(api.Sub, 2, 2)), false, api.OK},                  // 2^80, though it goes away
		{power(2, x0, big, op(api.Add, 0, 1)), false, api.OK},                      // 2^80
		{power(7, x0, one, op(api.Add, 0, 1)), false, api.OK},                      // 128 over 64 is above 2^40
		{power(5, x0, one, op(api.Add, 0, 1)), true, api.OK},                       // 33 products
		{power(3, x0, x1, op(api.Add, 0, 1), h0, op(api.Add, 2, 3)), true, api.OK}, // 45 products
		{power(4, x0, x1, op(api.Add, 0, 1), h0, op(api.Add, 2, 3)), true, api.OK}, // 153 products
		{power(4, x0, x1, op(api.Add, 0, 1), h0, op(api.Add, 2, 3), h1, op(api.Add, 4, 5)), false, api.OK},
		{power(8, x0), true, api.OK},
	} {
		if _, is, e := prove.Normal(c.p); is != c.is || e != c.e {
			t.Error(i, is, e)
		}
	}
}

// A rule of products of width 4 is proved by clauses, too.
func TestProductsByClauses(t *testing.T) {
	r := api.Rule{Left: []api.Node{x0, x1, op(api.Add, 0, 1), op(api.Sub, 0, 1), op(api.Mul, 2, 3)}, Right: []api.Node{x0, op(api.Mul, 0, 0), x1, op(api.Mul, 2, 2), op(api.Sub, 1, 3)}}
	debt, _ := prove.Debt(r, 4)
	l, is, e := prove.Prove(r, 4)
	if !is || e != api.OK || blast.Check(debt, l) != api.OK {
		t.Error(is, e)
	}
}
