package rule_test

import (
	"slices"
	"testing"

	"backstay/api"
	"backstay/bits"
	"backstay/fuzz"
	"backstay/pool"
	"backstay/rule"
	"backstay/term"
)

func node(op, w int, imm uint32, args ...int) api.Node {
	return api.Node{Op: op, Width: w, Imm: imm, Args: args}
}

func flagged(op, w, flags int, args ...int) api.Node {
	return api.Node{Op: op, Width: w, Flags: flags, Args: args}
}

var (
	x0 = node(api.Var, 0, 0)
	x1 = node(api.Var, 0, 1)
	h0 = node(api.Hole, 0, 0)
	h1 = node(api.Hole, 0, 1)
)

// power is x times a power of 2, as a shift.
func power() api.Rule {
	return api.Rule{
		Left:  []api.Node{x0, h0, node(api.Mul, 0, 0, 0, 1)},
		Right: []api.Node{x0, h0, node(api.Trail, 0, 0, 1), node(api.Shl, 0, 0, 0, 2)},
		Pre:   []api.Cond{{Kind: 1}},
	}
}

// compared is x < y with a number added on both sides.
func compared() api.Rule {
	return api.Rule{
		Left:  []api.Node{x0, node(api.Const, 0, 1), flagged(api.Add, 0, 1, 0, 1), x1, flagged(api.Add, 0, 1, 3, 1), node(api.Cmp, 1, api.Ult, 2, 4)},
		Right: []api.Node{x0, x1, node(api.Cmp, 1, api.Ult, 0, 1)},
	}
}

// P11.1
func TestValidate(t *testing.T) {
	change := func(e api.Errno, what func(r *api.Rule)) {
		t.Helper()
		r := power()
		what(&r)
		if got := rule.Validate(r); got != e {
			t.Error(r, got, e)
		}
		if _, got := rule.Key(r); got != e {
			t.Error(r, got, e)
		}
	}
	many := slices.Repeat([]api.Node{x0}, 13)
	change(api.OK, func(r *api.Rule) {})
	change(api.ErrLarge, func(r *api.Rule) { r.Left = nil })
	change(api.ErrLarge, func(r *api.Rule) { r.Right = many })
	change(api.OK, func(r *api.Rule) { r.Right = many[:12] })
	change(api.ErrLarge, func(r *api.Rule) { r.Left[0].Op = 99; r.Pre = make([]api.Cond, 5) })
	change(api.OK, func(r *api.Rule) { r.Pre = make([]api.Cond, 4) })
	change(api.ErrArg, func(r *api.Rule) { r.Left[0].Op = api.ZExt })
	change(api.ErrArg, func(r *api.Rule) { r.Left[0].Imm = 2 })
	change(api.ErrArg, func(r *api.Rule) { r.Left[0].Width = 8 })
	change(api.ErrArg, func(r *api.Rule) { r.Left[1].Imm = 2 })
	change(api.ErrArg, func(r *api.Rule) { r.Left[1].Width = 4 })
	change(api.ErrArg, func(r *api.Rule) { r.Left[2].Imm = 1 })
	change(api.ErrArg, func(r *api.Rule) { r.Left[2].Flags = 4 })
	change(api.OK, func(r *api.Rule) { r.Left[2].Flags = 3 })
	change(api.ErrArg, func(r *api.Rule) { r.Left[2].Args = []int{0} })
	change(api.ErrArg, func(r *api.Rule) { r.Left[2].Args = []int{0, 2} })
	change(api.ErrArg, func(r *api.Rule) { r.Left[2].Width = 33 })
	change(api.ErrArg, func(r *api.Rule) { r.Left[2].Width = -1 })
	change(api.ErrType, func(r *api.Rule) { r.Left[2].Width = 8 })
	change(api.ErrArg, func(r *api.Rule) { r.Right[2].Args = []int{0} })
	change(api.ErrArg, func(r *api.Rule) { r.Right[2].Width = 8 })
	change(api.ErrArg, func(r *api.Rule) {
		r.Left = []api.Node{x0, h0, node(api.Trail, 0, 0, 1), node(api.Mul, 0, 0, 0, 2)}
	})
	change(api.ErrArg, func(r *api.Rule) { r.Pre[0].Kind = 5 })
	change(api.ErrArg, func(r *api.Rule) { r.Pre[0].Kind = -1 })
	change(api.ErrArg, func(r *api.Rule) { r.Pre[0].Imm = 1 })
	change(api.OK, func(r *api.Rule) { r.Pre[0] = api.Cond{Kind: 4, Imm: 1<<32 - 1} })
	change(api.ErrArg, func(r *api.Rule) { r.Pre[0].Hole = 2 })
	change(api.ErrRule, func(r *api.Rule) { r.Pre[0].Hole = 1 })
	change(api.ErrRule, func(r *api.Rule) { r.Right[0].Imm = 1 })
	change(api.ErrRule, func(r *api.Rule) { r.Right[1].Imm = 1 })
	change(api.ErrRule, func(r *api.Rule) { r.Left = []api.Node{x1, x0, h0, node(api.Mul, 0, 0, 1, 2)}; r.Right[0] = x1 })
	change(api.ErrType, func(r *api.Rule) { r.Right = []api.Node{x0, h0, node(api.Cmp, 1, 0, 0, 1)} })
	change(api.ErrType, func(r *api.Rule) {
		r.Left, r.Right, r.Pre = []api.Node{node(api.Const, 8, 7)}, []api.Node{node(api.Const, 8, 7)}, nil
	})
	change(api.OK, func(r *api.Rule) {
		r.Left, r.Right, r.Pre = []api.Node{node(api.Const, 1, 1)}, []api.Node{node(api.Const, 1, 1)}, nil
	})
	change(api.ErrArg, func(r *api.Rule) {
		r.Left, r.Right, r.Pre = []api.Node{node(api.Const, 1, 2)}, []api.Node{node(api.Const, 1, 1)}, nil
	})
	change(api.OK, func(r *api.Rule) { r.Right = []api.Node{node(api.Const, 0, 1<<32-1)} })
	change(api.OK, func(r *api.Rule) { *r = compared() })
	change(api.ErrType, func(r *api.Rule) { r.Right = []api.Node{x0, node(api.Select, 0, 0, 0, 0, 0)} })
}

func TestErrors(t *testing.T) {
	v := []api.Node{node(api.Var, 8, 0), flagged(api.Add, 8, 1, 0, 0)}
	for i, c := range []struct {
		t []api.Node
		e api.Errno
	}{
		{v, api.OK},
		{nil, api.ErrLarge},
		{slices.Repeat(v[:1], 301), api.ErrLarge},
		{[]api.Node{v[0], flagged(api.Add, 8, 4, 0, 0)}, api.ErrArg},
		{[]api.Node{v[0], flagged(api.And, 8, 1, 0, 0)}, api.ErrArg},
		{[]api.Node{v[0], flagged(api.LShr, 8, 4, 0, 0)}, api.OK},
		{[]api.Node{flagged(api.Var, 8, 1)}, api.ErrArg},
		{[]api.Node{v[0], flagged(api.Add, 4, 1, 0, 0)}, api.ErrType},
		{[]api.Node{v[0], node(api.Var, 4, 0)}, api.ErrRule},
	} {
		_, e1 := rule.Plain(c.t)
		_, _, e2 := rule.Value(c.t, make([]uint32, 4))
		_, _, _, e3 := rule.Match(power(), c.t)
		_, _, e4 := rule.Rewrite(power(), c.t)
		for _, e := range []api.Errno{rule.ValidateFlagged(c.t), e1, e2, e3, e4} {
			if e != c.e {
				t.Error(i, e)
			}
		}
	}
	if _, _, e := rule.Value(v, []uint32{256, 0, 0, 0}); e != api.ErrArg {
		t.Error(e)
	}
	for i, c := range []struct {
		w     int
		holes []uint32
		e     api.Errno
	}{{4, []uint32{15, 15}, api.OK}, {0, []uint32{0, 0}, api.ErrArg}, {33, []uint32{0, 0}, api.ErrArg}, {4, []uint32{16, 0}, api.ErrArg}, {4, []uint32{0, 16}, api.ErrArg}, {4, []uint32{0}, api.ErrArg}, {32, []uint32{1<<32 - 1, 0}, api.OK}} {
		_, e := rule.Meets(power(), c.w, c.holes)
		_, _, e2 := rule.Sides(power(), c.w, c.holes)
		if e != c.e || e2 != c.e {
			t.Error(i, e, e2)
		}
	}
}

// P11.2
func TestValue(t *testing.T) {
	v, u := node(api.Var, 4, 0), node(api.Var, 4, 1)
	for op := api.Add; op <= api.AShr; op++ {
		for _, flags := range []int{0, 1, 2, 3, 4} {
			l := []api.Node{v, u, flagged(op, 4, flags, 0, 1)}
			if rule.ValidateFlagged(l) != api.OK {
				continue
			}
			for k := range uint32(256) {
				a, b := k>>4, k&15
				word, is, _ := bits.Do(op, 4, a, b)
				broken, _ := bits.Breaks(op, flags, 4, a, b)
				want := 0
				switch {
				case !is && op >= api.UDiv && op <= api.SRem:
					want = 2
				case !is || broken:
					want = 1
				}
				if want > 0 {
					word = 0
				}
				if n, state, e := rule.Value(l, []uint32{a, b, 0, 0}); n != word || state != want || e != api.OK {
					t.Error(l, a, b, n, state, e)
				}
			}
		}
	}
	// A division that does not lead to the root does not matter; a Select passes both sides on.
	l := []api.Node{v, u, node(api.UDiv, 4, 0, 0, 1), node(api.Const, 1, 0), node(api.Select, 4, 0, 3, 2, 0), node(api.Xor, 4, 0, 0, 1)}
	if n, state, _ := rule.Value(l, []uint32{5, 0, 0, 0}); n != 5 || state != 0 {
		t.Error(n, state)
	}
	if _, state, _ := rule.Value(l[:5], []uint32{5, 0, 0, 0}); state != 2 {
		t.Error(state)
	}
	l[2] = flagged(api.Add, 4, 1, 0, 0)
	if _, state, _ := rule.Value(l[:5], []uint32{8, 0, 0, 0}); state != 1 {
		t.Error(state)
	}
	p, _ := rule.Plain(l)
	if p[2].Flags != 0 || l[2].Flags != 1 || len(p) != 6 {
		t.Error(p)
	}
}

func TestMeetsAndSides(t *testing.T) {
	for kind := range 5 {
		r := power()
		r.Pre = []api.Cond{{Kind: kind}}
		if kind == 4 {
			r.Pre[0].Imm = 0xf5
		}
		for n := range uint32(16) {
			wants := []bool{n != 0, n == 1 || n == 2 || n == 4 || n == 8, n < 4, n%2 == 1, n != 5}
			if is, e := rule.Meets(r, 4, []uint32{n, 0}); is != wants[kind] || e != api.OK {
				t.Error(kind, n, is, e)
			}
		}
	}
	l, r, e := rule.Sides(power(), 8, []uint32{8, 99})
	left := []api.Node{node(api.Var, 8, 0), node(api.Const, 8, 8), node(api.Mul, 8, 0, 0, 1)}
	right := []api.Node{node(api.Var, 8, 0), node(api.Const, 8, 8), node(api.Const, 8, 3), node(api.Shl, 8, 0, 0, 2)}
	if !pool.Same(l, left) || !pool.Same(r, right) || e != api.OK {
		t.Error(l, r, e)
	}
	_, r, _ = rule.Sides(power(), 2, []uint32{0, 0})
	if r[2].Imm != 2 {
		t.Error("0 of 2 bits ends with 2 zeros", r)
	}
	_, r, _ = rule.Sides(power(), 1, []uint32{0, 0})
	if r[2].Imm != 1 {
		t.Error(r)
	}
}

// P11.3
func TestMatch(t *testing.T) {
	u := []api.Node{node(api.Var, 8, 1), node(api.Var, 8, 2), node(api.Add, 8, 0, 0, 1), node(api.Const, 8, 16), node(api.Mul, 8, 0, 2, 3)}
	vars, holes, is, e := rule.Match(power(), u)
	if !is || e != api.OK || !pool.Same(vars[0], u[:3]) || len(vars) != 4 || vars[1] != nil || !slices.Equal(holes, []uint32{16, 0}) {
		t.Error(vars, holes, is, e)
	}
	want := []api.Node{node(api.Var, 8, 1), node(api.Var, 8, 2), node(api.Add, 8, 0, 0, 1), node(api.Const, 8, 4), node(api.Shl, 8, 0, 2, 3)}
	if r, is, e := rule.Rewrite(power(), u); !is || e != api.OK || !pool.Same(r, want) {
		t.Error(r, is, e)
	}
	for i, change := range []func(){
		func() { u[3].Imm = 17 },
		func() { u[3].Imm = 16; u[4].Flags = 1 },
		func() { u[4].Flags = 0; u[4].Op = api.UDiv },
		func() { u[4].Op = api.Mul; u[4].Args = []int{3, 2} },
		func() { u[4].Args = []int{2, 2} },
	} {
		change()
		vars, holes, is, e := rule.Match(power(), u)
		r, is2, e2 := rule.Rewrite(power(), u)
		if is || is2 || vars != nil || holes != nil || r != nil || e != api.OK || e2 != api.OK {
			t.Error(i, vars, holes, r, e, e2)
		}
	}
	twice := api.Rule{Left: []api.Node{x0, node(api.Xor, 0, 0, 0, 0)}, Right: []api.Node{node(api.Const, 0, 0)}}
	same := []api.Node{node(api.Var, 4, 0), flagged(api.Add, 4, 1, 0, 0), flagged(api.Add, 4, 1, 0, 0), node(api.Xor, 4, 0, 1, 2)}
	if r, is, _ := rule.Rewrite(twice, same); !is || !pool.Same(r, []api.Node{node(api.Const, 4, 0)}) {
		t.Error(r, is)
	}
	same[2].Flags = 0
	if _, is, _ := rule.Rewrite(twice, same); is {
		t.Error("flags are kept")
	}
	holesTwice := api.Rule{Left: []api.Node{h1, node(api.Add, 0, 0, 0, 0)}, Right: []api.Node{h1}}
	for k, is := range map[uint32]bool{3: true, 4: false} {
		l := []api.Node{node(api.Const, 4, 3), node(api.Const, 4, k), node(api.Add, 4, 0, 0, 1)}
		if _, holes, got, _ := rule.Match(holesTwice, l); got != is || is && !slices.Equal(holes, []uint32{0, 3}) {
			t.Error(k, got, holes)
		}
	}
	constant := api.Rule{Left: []api.Node{node(api.Const, 0, 0x1ff)}, Right: []api.Node{node(api.Const, 0, 0)}}
	for w, is := range map[int]bool{8: true, 9: true, 10: false} {
		all, _ := bits.Mask(w)
		if _, _, got, _ := rule.Match(constant, []api.Node{node(api.Const, w, all)}); got != is {
			t.Error(w, got)
		}
	}
}

func TestMatchOfWidthOne(t *testing.T) {
	l := []api.Node{node(api.Var, 8, 2), node(api.Const, 8, 1), flagged(api.Add, 8, 1, 0, 1), node(api.Var, 8, 3), flagged(api.Add, 8, 1, 3, 1), node(api.Cmp, 1, api.Ult, 2, 4)}
	want := []api.Node{node(api.Var, 8, 2), node(api.Var, 8, 3), node(api.Cmp, 1, api.Ult, 0, 1)}
	if r, is, e := rule.Rewrite(compared(), l); !is || e != api.OK || !pool.Same(r, want) {
		t.Error(r, is, e)
	}
	l[5].Imm = api.Ule
	if _, is, _ := rule.Rewrite(compared(), l); is {
		t.Error("another predicate")
	}
	// No Var and no Hole: nothing matches.
	one := api.Rule{Left: []api.Node{node(api.Const, 1, 1)}, Right: []api.Node{node(api.Const, 1, 1)}}
	if _, _, is, _ := rule.Match(one, []api.Node{node(api.Const, 1, 1)}); is {
		t.Error("there is no width")
	}
	// A root of Width 1 does not tell the width of the rule, nor does a term of another width match.
	if _, _, is, _ := rule.Match(compared(), []api.Node{node(api.Var, 1, 0)}); is {
		t.Error("a variable is no comparison")
	}
}

func TestRewriteOfManyNodes(t *testing.T) {
	l := []api.Node{node(api.Var, 8, 0)}
	for i := range 298 {
		l = append(l, node(api.Mul, 8, 0, i, i))
	}
	square := api.Rule{Left: []api.Node{x0, x1, node(api.Mul, 0, 0, 0, 1)}, Right: []api.Node{x0, x1, node(api.Add, 0, 0, 0, 1), node(api.Xor, 0, 0, 2, 0), node(api.Or, 0, 0, 3, 0)}}
	if _, is, e := rule.Rewrite(square, l); is || e != api.ErrLarge {
		t.Error(is, e)
	}
	if r, is, e := rule.Rewrite(square, l[:298]); !is || len(r) != 300 || e != api.OK {
		t.Error(len(r), is, e)
	}
}

// A match means what it says: the left side with what is bound is the term.
func TestMatchOfMany(t *testing.T) {
	matched := 0
	for seed := range 2000 {
		n := make([]int, 60)
		s := seed
		for i := range n {
			s = s*6364136223846793005 + 1442695040888963407
			n[i] = s >> 33
		}
		u := fuzz.Terms(n)
		r := api.Rule{Left: []api.Node{x0, x1, node(api.Add+seed%13, 0, 0, 0, 1)}, Right: []api.Node{x1, x0, node(api.Sub, 0, 0, 0, 1)}}
		vars, _, is, _ := rule.Match(r, u)
		if !is {
			continue
		}
		matched++
		back, e := term.Join(r.Left[2].Op, u[len(u)-1].Width, 0, vars[:2])
		if same, _ := term.Same(back, u); !same || e != api.OK {
			t.Error(seed, u, vars, e)
		}
		want, _ := term.Join(api.Sub, u[len(u)-1].Width, 0, [][]api.Node{vars[1], vars[0]})
		if got, _, _ := rule.Rewrite(r, u); !pool.Same(got, want) {
			t.Error(seed, got, want)
		}
	}
	if matched < 20 {
		t.Error(matched)
	}
}

// P11.4
func TestKey(t *testing.T) {
	key := func(r api.Rule) string {
		t.Helper()
		s, e := rule.Key(r)
		if e != api.OK {
			t.Fatal(r, e)
		}
		return s
	}
	base := key(power())
	for i, change := range []func(r *api.Rule){
		func(r *api.Rule) { r.Left[0], r.Right[0] = x1, x1 },
		func(r *api.Rule) { r.Left[1], r.Right[1], r.Pre[0].Hole = h1, h1, 1 },
		func(r *api.Rule) { r.Pre = append(r.Pre, r.Pre[0]) },
		func(r *api.Rule) { r.Left = []api.Node{x1, h0, x0, node(api.Mul, 0, 0, 2, 1)} },
	} {
		r := power()
		change(&r)
		if s := key(r); s != base {
			t.Error(i, s)
		}
	}
	for i, change := range []func(r *api.Rule){
		func(r *api.Rule) { r.Left[2].Args = []int{1, 0} },
		func(r *api.Rule) { r.Left[2].Flags = 1 },
		func(r *api.Rule) { r.Pre = nil },
		func(r *api.Rule) { r.Pre[0].Kind = 0 },
		func(r *api.Rule) { r.Pre[0] = api.Cond{Kind: 4, Imm: 1} },
		func(r *api.Rule) { r.Right[3].Args = []int{0, 1} },
		func(r *api.Rule) { r.Right[3].Op = api.AShr },
	} {
		r := power()
		change(&r)
		if s := key(r); s == base {
			t.Error(i, s)
		}
	}
	two := api.Rule{Left: []api.Node{h0, h1, node(api.Sub, 0, 0, 0, 1)}, Right: []api.Node{h0}, Pre: []api.Cond{{Kind: 3, Hole: 1}, {Kind: 0}}}
	turned := api.Rule{Left: []api.Node{h0, h1, node(api.Sub, 0, 0, 1, 0)}, Right: []api.Node{h1}, Pre: []api.Cond{{Kind: 0, Hole: 1}, {Kind: 3}}}
	if key(two) != key(turned) {
		t.Error(key(two), key(turned))
	}
	turned.Right[0] = h0
	if key(two) == key(turned) {
		t.Error(key(two))
	}
}

func TestTurn(t *testing.T) {
	r := compared()
	if turned, is, e := rule.Turn(r); !is || e != api.OK || !pool.Same(turned.Left, r.Right) || !pool.Same(turned.Right, r.Left) {
		t.Error(turned, is, e)
	}
	if turned, is, e := rule.Turn(power()); is || e != api.OK || turned.Left != nil {
		t.Error("Trail is not for left sides", turned, is, e)
	}
	lost := api.Rule{Left: []api.Node{x0, x1, node(api.And, 0, 0, 0, 1)}, Right: []api.Node{x0}}
	if _, is, e := rule.Turn(lost); is || e != api.OK {
		t.Error(is, e)
	}
	// What Sides makes of the left side is rewritten to what it makes of the right side.
	for w := 1; w <= 8; w++ {
		holes := []uint32{1 << (w - 1), 0}
		left, right, _ := rule.Sides(power(), w, holes)
		got, is, e := rule.Rewrite(power(), left)
		if want := pool.Share(right, len(right)-1); !is || e != api.OK || !pool.Same(got, want) {
			t.Error(w, got, want, is, e)
		}
	}
}
