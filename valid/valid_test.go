package valid_test

import (
	"slices"
	"testing"

	"backstay/api"
	"backstay/fuzz"
	"backstay/ir"
	"backstay/pass"
	"backstay/refine"
	"backstay/run"
	"backstay/text"
	"backstay/valid"
)

func parse(t *testing.T, s string) api.Func {
	t.Helper()
	f, e := text.Parse(s)
	if e != api.OK {
		t.Fatalf("%q: %v", s, e)
	}
	return f
}

const (
	twice   = "func 8 : 8 :\n0:\n1 = const 8 #2\n2 = mul 8 0 1\nret 2\n"
	sum     = "func 8 : 8 :\n0:\n1 = add 8 0 0\nret 1\n"
	signed  = "func 8 : 8 :\n0:\n1 = add.2 8 0 0\nret 1\n"
	divided = "func 8 : 8 :\n0:\n1 = udiv 8 0 0\n2 = add 8 0 0\nret 2\n"
	odd     = "func 8 : 8 :\n0:\n1 = const 8 #1\n2 = or 8 0 1\n3 = udiv 8 0 2\n4 = add 8 0 0\nret 4\n"
	loop    = "func 4 : 8 :\n0:\n1 = const 4 #0\n2 = const 8 #0\n3 = const 4 #1\n4 = const 8 #3\njump @1\n1:\n6 = phi 4 1 10 @0 @2\n7 = phi 8 2 11 @0 @2\n8 = cmp 1 #2 6 0\nbranch 8 @2 @3\n2:\n10 = add 4 6 3\n11 = add 8 7 4\njump @1\n3:\nret 7\n"
	// turned is loop with the second sum turned round, and the Phis exchanged.
	turned = "func 4 : 8 :\n0:\n1 = const 4 #0\n2 = const 8 #0\n3 = const 4 #1\n4 = const 8 #3\njump @1\n1:\n6 = phi 8 2 11 @0 @2\n7 = phi 4 1 10 @0 @2\n8 = cmp 1 #4 0 7\nbranch 8 @2 @3\n2:\n10 = add 4 3 7\n11 = add 8 4 6\njump @1\n3:\nret 6\n"
)

func entry(pairs ...[2]int) []api.Tie {
	return []api.Tie{{Pairs: pairs}}
}

// P17.1
func TestValidate(t *testing.T) {
	f, g := parse(t, loop), parse(t, turned)
	wide := parse(t, "func 9 : 0 :\n0:\nret\n")
	wideInside := parse(t, "func 4 : 8 :\n0:\n1 = zext 9 0\n2 = trunc 8 1\nret 2\n")
	choice := parse(t, "func 4 : 8 :\n0:\n1 = any 8\nret 1\n")
	behind := parse(t, "func 4 : 8 :\n0:\n1 = const 8 #0\nret 1\n1:\nret 1\n")
	for i, c := range []struct {
		f, g api.Func
		l    []api.Tie
		e    api.Errno
	}{
		{api.Func{}, api.Func{Blocks: [][]api.Inst{nil}}, nil, api.ErrLarge},
		{f, api.Func{Blocks: [][]api.Inst{nil}}, nil, api.ErrRule},
		{f, wide, nil, api.ErrFit},
		{f, choice, nil, api.ErrState},
		{choice, wideInside, nil, api.ErrState},
		{wide, wide, nil, api.ErrLarge},
		{f, wideInside, []api.Tie{{S: 99}}, api.ErrLarge},
		{f, g, []api.Tie{{S: 4}}, api.ErrNone},
		{f, g, []api.Tie{{T: -1}}, api.ErrNone},
		{f, g, []api.Tie{{S: 1}, {S: 1}, {Pairs: [][2]int{{14, 0}}}}, api.ErrNone},
		{f, g, []api.Tie{{Pairs: [][2]int{{0, -1}}}}, api.ErrNone},
		{f, g, []api.Tie{{S: 1, T: 2}, {S: 1, T: 2}, {Pairs: [][2]int{{1, 1}}}}, api.ErrRule},
		{f, behind, []api.Tie{{S: 1, T: 1}}, api.ErrRule},
		{f, g, []api.Tie{{S: 1, T: 2}, {S: 1, T: 1}}, api.OK},
		{f, g, entry([2]int{1, 1}), api.ErrType},
		{f, g, []api.Tie{{S: 1, T: 1, Pairs: [][2]int{{6, 7}}}}, api.OK},
		{f, g, []api.Tie{{S: 1, T: 1, Pairs: [][2]int{{6, 6}}}}, api.ErrType},
		{f, g, []api.Tie{{S: 1, T: 1, Pairs: [][2]int{{8, 8}}}}, api.ErrType},
		{f, g, []api.Tie{{S: 2, T: 1, Pairs: [][2]int{{8, 8}}}}, api.ErrType},
		{f, g, []api.Tie{{S: 2, T: 2, Pairs: [][2]int{{8, 8}, {6, 7}}}}, api.OK},
		{f, g, []api.Tie{{S: 3, T: 3, Pairs: [][2]int{{10, 10}}}}, api.ErrType},
		{f, g, []api.Tie{{S: 1, T: 1, Pairs: [][2]int{{5, 5}}}}, api.ErrType},
	} {
		_, e2 := valid.Check(c.f, c.g, c.l)
		if e := valid.Validate(c.f, c.g, c.l); e != c.e || e2 != c.e {
			t.Error(i, e, e2, c.e)
		}
		if c.e == api.OK || len(c.l) > 0 {
			continue
		}
		l, is, e3 := valid.Guess(c.f, c.g)
		is2, e4 := valid.IsPermitted(c.f, c.g)
		if e3 != c.e || e4 != c.e || l != nil || is || is2 {
			t.Error(i, e3, e4)
		}
	}
	for f, want := range map[*api.Func]api.Errno{&choice: api.ErrState, &wide: api.ErrLarge, {}: api.ErrLarge} {
		if _, e := valid.Self(*f); e != want {
			t.Error(*f, e)
		}
	}
}

// P17.2
func TestCheck(t *testing.T) {
	for i, c := range []struct {
		f, g string
		l    []api.Tie
		want bool
	}{
		{twice, sum, entry([2]int{0, 0}), true},
		{twice, sum, entry(), true},
		{twice, sum, nil, false},
		{signed, sum, entry(), true},
		{sum, signed, entry(), false},
		{divided, sum, entry(), true},
		{sum, divided, entry(), false},
		{sum, odd, entry(), true},
		{loop, turned, []api.Tie{{}, {S: 1, T: 1, Pairs: [][2]int{{6, 7}, {7, 6}, {3, 3}, {4, 4}}}, {S: 2, T: 2, Pairs: [][2]int{{6, 7}, {7, 6}, {3, 3}, {4, 4}}}, {S: 3, T: 3, Pairs: [][2]int{{7, 6}}}}, true},
		{loop, turned, []api.Tie{{}, {S: 1, T: 1, Pairs: [][2]int{{6, 7}, {7, 6}, {3, 3}}}, {S: 2, T: 2, Pairs: [][2]int{{6, 7}, {7, 6}, {3, 3}}}, {S: 3, T: 3, Pairs: [][2]int{{7, 6}}}}, false},
		{loop, turned, []api.Tie{{}, {S: 1, T: 1, Pairs: [][2]int{{6, 7}, {7, 6}, {3, 3}, {4, 4}}}, {S: 3, T: 3, Pairs: [][2]int{{7, 6}}}}, false},
		{loop, turned, []api.Tie{{}, {S: 1, T: 1, Pairs: [][2]int{{6, 7}, {3, 3}}}, {S: 2, T: 2, Pairs: [][2]int{{6, 7}, {3, 3}}}, {S: 3, T: 3}}, false},
	} {
		if is, e := valid.Check(parse(t, c.f), parse(t, c.g), c.l); is != c.want || e != api.OK {
			t.Error(i, is, e)
		}
	}
	// The pairs of the entry are of the same parameter alone.
	two := parse(t, "func 8 8 : 0 :\n0:\nret\n")
	for i, c := range []struct {
		pairs [][2]int
		want  bool
	}{{nil, true}, {[][2]int{{0, 0}, {1, 1}}, true}, {[][2]int{{0, 1}}, false}} {
		if is, e := valid.Check(two, two, []api.Tie{{Pairs: c.pairs}}); is != c.want || e != api.OK {
			t.Error(i, is, e)
		}
	}
}

// P17.2: a pair whose first value is poison permits any second one, and poison too.
func TestPoison(t *testing.T) {
	const head = "func 1 4 : 4 :\n0:\n"
	poison := head + "2 = poison 4\njump @1\n1:\nret 2\n"
	for i, c := range []struct {
		f, g string
		want bool
	}{
		{poison, head + "2 = const 4 #7\njump @1\n1:\nret 2\n", true},
		{head + "2 = const 4 #7\njump @1\n1:\nret 2\n", poison, false},
		{poison, poison, true},
		{head + "2 = poison 4\njump @1\n1:\n4 = udiv 4 1 2\nret 4\n", head + "2 = const 4 #0\njump @1\n1:\n4 = udiv 4 1 2\nret 4\n", true},
		{head + "2 = const 4 #1\njump @1\n1:\n4 = udiv 4 1 2\nret 4\n", head + "2 = const 4 #0\njump @1\n1:\n4 = udiv 4 1 2\nret 4\n", false},
		{head + "2 = poison 4\njump @1\n1:\n4 = select 4 0 1 2\nret 4\n", head + "2 = const 4 #3\njump @1\n1:\n4 = select 4 0 1 1\nret 4\n", false},
	} {
		l := []api.Tie{{}, {S: 1, T: 1, Pairs: [][2]int{{2, 2}}}}
		if is, e := valid.Check(parse(t, c.f), parse(t, c.g), l); is != c.want || e != api.OK {
			t.Error(i, is, e)
		}
	}
}

// pure makes a function of fuzz pure and narrow, if it can.
func pure(f api.Func) (api.Func, bool) {
	widths := map[int]int{0: 0, 1: 1, 2: 2, 3: 3, 4: 4, 8: 5, 16: 6, 32: 7}
	g := ir.Copy(f)
	for i, w := range g.Params {
		g.Params[i] = widths[w]
	}
	g.Ret = widths[g.Ret]
	for _, block := range g.Blocks {
		for i := range block {
			x := &block[i]
			x.Width = widths[x.Width]
			switch x.Op {
			case api.Const:
				x.Imm &= 1<<x.Width - 1
			case api.Any:
				x.Op = api.Const
			case api.Freeze:
				x.Op, x.Args = api.Or, []int{x.Args[0], x.Args[0]}
			case api.PAdd, api.PSub:
				x.Imm = 1
			}
		}
	}
	is, e := ir.IsPure(g)
	return g, is && e == api.OK
}

type random struct{ seed int }

func (r *random) next(n int) int {
	r.seed = r.seed*6364136223846793005 + 1442695040888963407
	return int(uint(r.seed)>>33) % n
}

func numbers(seed int) []int {
	r := &random{seed}
	l := make([]int, 160)
	for i := range l {
		l[i] = r.next(1 << 30)
	}
	return l
}

func make1(seed int) (api.Func, bool) {
	if seed%4 == 0 {
		return fuzz.Straight(numbers(seed)), true
	}
	f := fuzz.Make(numbers(seed))
	if len(f.Slots) > 0 {
		return f, false
	}
	return pure(f)
}

// weaker has fewer flags.
func weaker(f api.Func, seed int) api.Func {
	g := ir.Copy(f)
	for _, block := range g.Blocks {
		for i := range block {
			switch block[i].Op {
			case api.Add, api.Sub, api.Mul, api.Shl:
				block[i].Flags &= seed >> (i % 7)
			}
		}
	}
	return g
}

// permitted checks by runs what was proved.
func permitted(t *testing.T, f, g api.Func) {
	t.Helper()
	inputs, _ := fuzz.Inputs(f, 30)
	for _, in := range inputs {
		s, e := run.All(f, in)
		u, e2 := run.All(g, in)
		isLong := func(o api.Outcome) bool { return o.Kind == api.Long }
		if e != api.OK || e2 != api.OK || slices.ContainsFunc(s, isLong) || slices.ContainsFunc(u, isLong) {
			continue
		}
		if !refine.PermitsAll(s, u) {
			a, _ := text.Print(f)
			b, _ := text.Print(g)
			t.Fatal(in, s, u, a, b)
		}
	}
}

// P17.2 and P17.3 for many functions.
func TestMany(t *testing.T) {
	checked, wrong, changed := 0, 0, 0
	for seed := range 900 {
		f, is := make1(seed)
		if !is {
			continue
		}
		l, e := valid.Self(f)
		if is, e2 := valid.Check(f, f, l); !is || e != api.OK || e2 != api.OK {
			s, _ := text.Print(f)
			t.Fatal(seed, s, e, e2)
		}
		g := weaker(f, seed)
		l, is, e = valid.Guess(f, g)
		if checks, _ := valid.Check(f, g, l); !is || !checks || e != api.OK {
			s, _ := text.Print(f)
			t.Fatal(seed, s, is, checks, e)
		}
		permitted(t, f, g)
		checked++
		// What is changed is proved only if it is permitted.
		names := pass.Names()
		others := []api.Func{weaker(g, 0)}
		for k := range 3 {
			h, _ := pass.Apply(f, names[(seed+k)%7])
			others = append(others, h)
		}
		others = append(others, mutated(f, seed), mutated(f, seed+1))
		for _, h := range others {
			if is, e := valid.IsPermitted(f, h); is {
				changed++
				permitted(t, f, h)
			} else if e == api.OK {
				wrong++
			}
			if is, _ := valid.IsPermitted(h, f); is {
				permitted(t, h, f)
			}
		}
	}
	if checked < 100 || wrong < 10 || changed < 100 {
		t.Error("too few", checked, wrong, changed)
	}
}

// mutated changes an operation, a number or a flag.
func mutated(f api.Func, seed int) api.Func {
	r := &random{seed}
	for range 20 {
		g := ir.Copy(f)
		block := g.Blocks[r.next(len(g.Blocks))]
		x := &block[r.next(len(block))]
		switch {
		case x.Op == api.Const:
			x.Imm ^= 1
		case x.Op == api.Cmp:
			x.Imm = uint32(r.next(10))
		case x.Op >= api.Add && x.Op <= api.AShr:
			x.Op, x.Flags = api.Add+r.next(13), 0
		case len(x.Args) > 1 && x.Op != api.Phi:
			slices.Reverse(x.Args)
		}
		if ir.Validate(g) == api.OK {
			return g
		}
	}
	return f
}

// P17.3
func TestSelfAndWeaken(t *testing.T) {
	f := parse(t, loop)
	l, e := valid.Self(f)
	if e != api.OK || len(l) != 4 || !slices.Equal(l[0].Pairs, [][2]int{{0, 0}}) || !slices.Equal(l[1].Pairs, [][2]int{{0, 0}, {1, 1}, {2, 2}, {3, 3}, {4, 4}, {6, 6}, {7, 7}}) {
		t.Error(l, e)
	}
	if is, e := valid.Check(f, f, l); !is || e != api.OK {
		t.Error(is, e)
	}
	w, e := valid.Weaken(f, f, l, 1, 3)
	if e != api.OK || len(w[1].Pairs) != 6 || len(l[1].Pairs) != 7 || slices.Contains(w[1].Pairs, [2]int{3, 3}) {
		t.Error(w, e)
	}
	if is, _ := valid.Check(f, f, w); is {
		t.Error("the step is not known any more")
	}
	for _, k := range [][2]int{{-1, 0}, {4, 0}, {0, 1}, {1, 7}, {1, -1}} {
		if w, e := valid.Weaken(f, f, l, k[0], k[1]); e != api.ErrNone || w != nil {
			t.Error(k, w, e)
		}
	}
	if is, e := valid.IsPermitted(f, parse(t, turned)); !is || e != api.OK {
		t.Error(is, e)
	}
	if is, e := valid.IsPermitted(parse(t, twice), parse(t, sum)); !is || e != api.OK {
		t.Error(is, e)
	}
	if l, is, e := valid.Guess(parse(t, sum), parse(t, signed)); l != nil || is || e != api.OK {
		t.Error(l, is, e)
	}
}
