package loop_test

import (
	"slices"
	"strconv"
	"strings"
	"testing"

	"backstay/api"
	"backstay/bits"
	"backstay/flow"
	"backstay/fuzz"
	"backstay/ir"
	"backstay/loop"
	"backstay/refine"
	"backstay/run"
	"backstay/text"
)

// trips counts one step after another.
func trips(pred, w int, start, step, bound uint32) (int, bool) {
	all, _ := bits.Mask(w)
	i := start
	for n := range 1 << w {
		if is, _ := bits.Compare(pred, w, i, bound); !is {
			return n, true
		}
		i = (i + step) & all
	}
	return 0, false
}

// P16.1
func TestErrors(t *testing.T) {
	for _, w := range []int{0, 33} {
		_, _, e1 := loop.Trips(api.Eq, w, 0, 0, 0)
		_, e2 := loop.After(w, 0, 0, 0)
		_, e3 := loop.Total(w, 0, 0, 0)
		_, e4 := loop.Power(w, 0, 0)
		_, e5 := loop.Ring(w, 0)
		for _, e := range []api.Errno{e1, e2, e3, e4, e5} {
			if e != api.ErrArg {
				t.Error(w, e)
			}
		}
	}
	for _, n := range []int{-1, 1<<32 + 1} {
		_, e2 := loop.After(8, 0, 0, n)
		_, e3 := loop.Total(8, 0, 0, n)
		_, e4 := loop.Power(8, 0, n)
		if e2 != api.ErrArg || e3 != api.ErrArg || e4 != api.ErrArg {
			t.Error(n, e2, e3, e4)
		}
	}
	for _, c := range [][3]uint32{{16, 0, 0}, {0, 16, 0}, {0, 0, 16}} {
		if _, _, e := loop.Trips(api.Ult, 4, c[0], c[1], c[2]); e != api.ErrArg {
			t.Error(c, e)
		}
		_, e2 := loop.After(4, c[0]|c[2], c[1], 0)
		_, e3 := loop.Total(4, c[0]|c[2], c[1], 0)
		if e2 != api.ErrArg || e3 != api.ErrArg {
			t.Error(c, e2, e3)
		}
	}
	for _, pred := range []int{-1, 10} {
		if _, _, e := loop.Trips(pred, 4, 0, 0, 0); e != api.ErrArg {
			t.Error(pred, e)
		}
	}
	f := parse(t, counting)
	for head, want := range map[int]api.Errno{-1: api.ErrNone, 5: api.ErrNone, 0: api.ErrState, 2: api.ErrState, 4: api.ErrState, 1: api.OK} {
		_, _, e1 := loop.Counted(f, head)
		_, e2 := loop.Peel(f, head)
		_, _, e3 := loop.Unswitch(f, head)
		if e1 != want || e2 != want || e3 != want {
			t.Error(head, e1, e2, e3)
		}
	}
	if _, e := loop.Reduce(api.Func{}); e != api.ErrLarge {
		t.Error(e)
	}
}

// P16.2
func TestTrips(t *testing.T) {
	for pred := range 10 {
		for w := 1; w <= 4; w++ {
			last := uint32(1) << w
			for start := range last {
				for step := range last {
					for bound := range last {
						want, ends := trips(pred, w, start, step, bound)
						n, is, e := loop.Trips(pred, w, start, step, bound)
						if n != want || is != ends || e != api.OK {
							t.Fatal(pred, w, start, step, bound, n, is, want, ends)
						}
						if ring, _ := loop.Ring(w, step); is && n > 0 && n >= ring {
							t.Error("a count that ends does so in less steps than a ring", n, ring)
						}
					}
				}
			}
		}
	}
	seed := uint32(1)
	next := func() uint32 {
		seed = seed*1664525 + 1013904223
		return seed >> 3
	}
	for range 3000 {
		pred, start, step, bound := int(next()%10), next()%65536, next()%65536, next()%65536
		want, ends := trips(pred, 16, start, step, bound)
		if n, is, _ := loop.Trips(pred, 16, start, step, bound); n != want || is != ends {
			t.Fatal(pred, start, step, bound, n, is, want, ends)
		}
	}
	for _, c := range []struct {
		pred, w            int
		start, step, bound uint32
		n                  int
		is                 bool
	}{
		{api.Ult, 8, 0, 3, 10, 4, true},
		{api.Ne, 4, 0, 2, 5, 0, false},
		{api.Ne, 32, 0, 1, 1<<32 - 1, 1<<32 - 1, true},
		{api.Ne, 32, 1, 1<<32 - 1, 2, 1<<32 - 1, true},
		{api.Ule, 32, 0, 1, 1<<32 - 1, 0, false},
		{api.Ult, 32, 0, 1, 1<<32 - 1, 1<<32 - 1, true},
		{api.Ugt, 32, 1<<32 - 1, 1<<32 - 1, 0, 1<<32 - 1, true},
		{api.Slt, 32, 1 << 31, 1, 1<<31 - 1, 1<<32 - 1, true},
		{api.Eq, 32, 7, 9, 7, 1, true},
		{api.Eq, 32, 7, 0, 7, 0, false},
		{api.Uge, 32, 0, 5, 0, 0, false},
	} {
		if n, is, e := loop.Trips(c.pred, c.w, c.start, c.step, c.bound); n != c.n || is != c.is || e != api.OK {
			t.Error(c, n, is, e)
		}
	}
}

func TestSums(t *testing.T) {
	for w := 1; w <= 6; w++ {
		last := uint32(1) << w
		for start := range last {
			for step := range last {
				i, sum, power := start, uint32(0), 1%last
				ring := 0
				for n := range 70 {
					after, _ := loop.After(w, start, step, n)
					total, _ := loop.Total(w, start, step, n)
					p, _ := loop.Power(w, start, n)
					if after != i || total != sum || p != power {
						t.Fatal(w, start, step, n, after, total, p)
					}
					sum = (sum + i) % last
					i = (i + step) % last
					power = power * start % last
					if i == start && ring == 0 {
						ring = n + 1
					}
				}
				if r, e := loop.Ring(w, step); r != ring || e != api.OK {
					t.Error(w, step, r, ring)
				}
			}
		}
	}
	if n, _ := loop.Total(32, 0, 1, 1<<32); n != 1<<31 {
		t.Error("2^32 * (2^32 - 1) / 2", n)
	}
	if n, _ := loop.Total(32, 5, 0, 1<<32-1); n != 1<<32-5 {
		t.Error(n)
	}
	if n, _ := loop.Power(32, 3, 1<<32); n != 1 {
		t.Error(n)
	}
	if n, _ := loop.After(32, 9, 7, 1<<32); n != 9 {
		t.Error(n)
	}
	if n, _ := loop.Ring(32, 0); n != 1 {
		t.Error(n)
	}
	if n, _ := loop.Ring(32, 1); n != 1<<32 {
		t.Error(n)
	}
}

func parse(t *testing.T, s string) api.Func {
	t.Helper()
	f, e := text.Parse(s)
	if e != api.OK {
		t.Fatalf("%q: %v", s, e)
	}
	return f
}

// counting counts by 3 from 0 as long as it is below 10, and sums up; the branch in the middle is by a parameter.
const counting = `func 1 8 : 8 :
0:
2 = const 8 #0
3 = const 8 #3
4 = const 8 #10
jump @1
1:
6 = phi 8 2 10 @0 @2
7 = phi 8 1 12 @0 @2
8 = cmp 1 #2 6 4
branch 8 @2 @3
2:
10 = add 8 6 3
11 = mul 8 6 4
12 = add 8 7 11
jump @1
3:
14 = add 8 7 6
ret 14
4:
jump @3
`

// P16.3
func TestCounted(t *testing.T) {
	swap := func(old, fresh string) string {
		return strings.Replace(counting, old, fresh, 1)
	}
	for i, c := range []struct {
		s  string
		n  int
		is bool
	}{
		{counting, 4, true},
		{swap("10 = add 8 6 3", "10 = add 8 3 6"), 4, true},
		{swap("10 = add 8 6 3", "10 = add.1 8 6 3"), 0, false},
		{swap("10 = add 8 6 3", "10 = sub 8 6 3"), 0, false},
		{swap("10 = add 8 6 3", "10 = add 8 6 1"), 0, false},
		{swap("10 = add 8 6 3", "10 = add 8 7 3"), 0, false},
		{swap("cmp 1 #2 6 4", "cmp 1 #4 4 6"), 0, false},
		{swap("cmp 1 #2 6 4", "cmp 1 #2 6 1"), 0, false},
		{swap("cmp 1 #2 6 4", "cmp 1 #2 7 4"), 0, false},
		{swap("cmp 1 #2 6 4", "cmp 1 #1 6 4"), 174, true}, // 3 * 174 = 2 * 256 + 10
		{swap("cmp 1 #2 6 4", "cmp 1 #5 6 2"), 0, false},
		{swap("6 = phi 8 2 10", "6 = phi 8 1 10"), 0, false},
		{swap("6 = phi 8 2 10", "6 = phi 8 4 10"), 0, true},
		{swap("branch 8 @2 @3", "branch 8 @3 @2"), 0, false},
	} {
		if n, is, e := loop.Counted(parse(t, c.s), 1); n != c.n || is != c.is || e != api.OK {
			t.Error(i, n, is, e)
		}
	}
	// The loop is left in the middle.
	left := "func 1 : 0 :\n0:\n1 = const 4 #0\n2 = const 4 #1\njump @1\n1:\n4 = phi 4 1 7 @0 @2\n5 = cmp 1 #2 4 2\nbranch 5 @2 @3\n2:\n7 = add 4 4 2\nbranch 0 @1 @3\n3:\nret\n"
	if n, is, e := loop.Counted(parse(t, left), 1); n != 0 || is || e != api.OK {
		t.Error(n, is, e)
	}
	self := "func : 0 :\n0:\n0 = const 4 #0\n1 = const 4 #1\n2 = const 4 #5\njump @1\n1:\n4 = phi 4 0 6 @0 @1\n5 = cmp 1 #1 4 2\n6 = add 4 4 1\nbranch 5 @1 @2\n2:\nret\n"
	f := parse(t, self)
	n, is, _ := loop.Counted(f, 1)
	entered, _ := run.Trace(f, api.Input{}, nil)
	if n != 5 || !is || len(entered) != 1+6+1 {
		t.Error(n, is, entered)
	}
	three := "func 1 : 0 :\n0:\n1 = const 4 #0\n2 = const 4 #1\nbranch 0 @1 @2\n1:\njump @3\n2:\njump @3\n3:\n6 = phi 4 1 1 8 @1 @2 @3\n7 = cmp 1 #2 6 2\n8 = add 4 6 2\nbranch 7 @3 @4\n4:\nret\n"
	if _, is, _ := loop.Counted(parse(t, three), 3); is {
		t.Error("three blocks before the head")
	}
}

// same checks that two functions have the same outcomes, or that the first one permits the second one.
func same(t *testing.T, what string, f, g api.Func, permits bool) bool {
	t.Helper()
	if alike, e := ir.Alike(f, g); !alike || e != api.OK {
		a, _ := text.Print(f)
		t.Fatal(what, a, g, e)
	}
	inputs, _ := fuzz.Inputs(f, 5)
	asked := false
	for _, in := range inputs {
		s, e := run.All(f, in)
		u, e2 := run.All(g, in)
		isLong := func(o api.Outcome) bool { return o.Kind == api.Long }
		if e != api.OK || e2 != api.OK || slices.ContainsFunc(s, isLong) || slices.ContainsFunc(u, isLong) {
			continue
		}
		asked = true
		if !permits && !slices.EqualFunc(s, u, run.SameOutcome) || permits && !refine.PermitsAll(s, u) {
			a, _ := text.Print(f)
			b, _ := text.Print(g)
			t.Fatal(what, in, s, u, a, b)
		}
	}
	return asked
}

// P16.4
func TestChanges(t *testing.T) {
	f := parse(t, counting)
	g, e := loop.Peel(f, 1)
	if e != api.OK || len(g.Blocks) != 6 {
		t.Error(g, e)
	}
	same(t, "peel", f, g, false)
	trace, _ := run.Trace(g, api.Input{Args: []uint32{0, 7}}, nil)
	for b := range 6 {
		if heads := flowHeads(g); len(heads) != 1 || b == heads[0] && count(trace, b) != 4 {
			t.Error("the first time round is done by copies", trace, heads)
		}
	}
	h, e := loop.Reduce(f)
	if e != api.OK {
		t.Error(e)
	}
	same(t, "reduce", f, h, false)
	for _, block := range h.Blocks {
		if slices.ContainsFunc(block, func(x api.Inst) bool { return x.Op == api.Mul }) {
			t.Error("the product is still there", h)
		}
	}
	if _, is, e := loop.Unswitch(f, 1); is || e != api.OK {
		t.Error("there is nothing to unswitch", is, e)
	}
	switched := parse(t, strings.Replace(counting, "branch 8 @2 @3", "branch 0 @2 @3", 1))
	u, is, e := loop.Unswitch(switched, 1)
	if !is || e != api.OK {
		t.Error(is, e)
	}
	same(t, "unswitch", switched, u, true)
}

func count(l []int, b int) int {
	n := 0
	for _, x := range l {
		if x == b {
			n++
		}
	}
	return n
}

func flowHeads(f api.Func) []int {
	g, _ := ir.Graph(f)
	var l []int
	for b := range f.Blocks {
		if _, e := flow.Loop(g, b); e == api.OK {
			l = append(l, b)
		}
	}
	return l
}

type random struct{ seed int }

func (r *random) next(n int) int {
	r.seed = r.seed*6364136223846793005 + 1442695040888963407
	return int(uint(r.seed)>>33) % n
}

// Many functions with loops: those of fuzz, and some that end.
func TestManyChanges(t *testing.T) {
	done := [2]int{}
	for seed := range 1500 {
		l := make([]int, 160)
		r := &random{seed}
		for i := range l {
			l[i] = r.next(1 << 30)
		}
		f := fuzz.Make(l)
		for _, head := range flowHeads(f) {
			if n, is, e := loop.Counted(f, head); e != api.OK || !is && n != 0 {
				t.Error(seed, n, is, e)
			}
			if g, e := loop.Peel(f, head); e == api.OK && same(t, "peel", f, g, false) {
				done[0]++
			} else if e != api.OK && e != api.ErrLarge {
				t.Error(seed, e)
			}
			if g, is, e := loop.Unswitch(f, head); is && same(t, "unswitch", f, g, true) {
				done[1]++
			} else if e != api.OK && e != api.ErrLarge || !is && g.Blocks != nil {
				t.Error(seed, e)
			}
		}
		g, e := loop.Reduce(f)
		if e != api.OK {
			t.Error(seed, e)
		}
		same(t, "reduce", f, g, false)
	}
	if done[0] < 50 || done[1] < 5 {
		t.Error("too few", done)
	}
}

// counter is a loop that counts, sums up in one of its two arms, and is looked at behind.
func counter(r *random) string {
	w := []int{2, 3, 4, 8}[r.next(4)]
	word := func() string { return strconv.Itoa(r.next(1 << w)) }
	product := []string{"7 5", "5 7", "7 7", "8 5"}[r.next(4)]
	sum := []string{"7 3", "3 7"}[r.next(2)]
	s := "func 1 W : W :\n0:\n2 = const W #" + word() + "\n3 = const W #" + word() + "\n4 = const W #" + word() + "\n5 = const W #" + word() + "\njump @1\n" +
		"1:\n7 = phi W 2 16 @0 @4\n8 = phi W 1 15 @0 @4\n9 = cmp 1 #" + strconv.Itoa(r.next(10)) + " 7 4\nbranch 9 @2 @5\n" +
		"2:\n11 = mul W " + product + "\nbranch 0 @3 @4\n" +
		"3:\n13 = add W 8 11\njump @4\n" +
		"4:\n15 = phi W 8 13 @2 @3\n16 = add W " + sum + "\njump @1\n" +
		"5:\n18 = sub W 8 7\n19 = xor W 18 7\nret 19\n"
	return strings.ReplaceAll(s, "W", strconv.Itoa(w))
}

// P16.3 and P16.4 for loops that count.
func TestCounters(t *testing.T) {
	counted, reduced, longer := 0, 0, 0
	for seed := range 1500 {
		f := parse(t, counter(&random{seed}))
		n, is, e := loop.Counted(f, 1)
		if e != api.OK {
			t.Fatal(seed, e)
		}
		inputs, _ := fuzz.Inputs(f, 4)
		for _, in := range inputs {
			out, _, _ := run.Run(f, in, nil)
			trace, _ := run.Trace(f, in, nil)
			if out.Kind == api.Done && (!is || count(trace, 1) != n+1) {
				t.Error(seed, n, is, trace)
			}
			if is && n < 20 {
				counted++
				if out.Kind != api.Done {
					t.Error(seed, n, out)
				}
			}
		}
		g, e := loop.Reduce(f)
		if e != api.OK {
			t.Error(seed, e)
		}
		same(t, "reduce", f, g, false)
		if !ir.Same(f, g) {
			reduced++
		}
		p, e := loop.Peel(f, 1)
		if e == api.OK && same(t, "peel", f, p, false) {
			longer++
		}
		u, is, e := loop.Unswitch(f, 1)
		if !is || e != api.OK {
			t.Error(seed, is, e)
		}
		same(t, "unswitch", f, u, true)
		if again, e := loop.Peel(u, flowHeads(u)[0]); e == api.OK {
			same(t, "both", f, again, true)
		}
	}
	if counted < 500 || reduced < 300 || longer < 300 {
		t.Error("too few", counted, reduced, longer)
	}
}
