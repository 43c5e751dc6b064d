package egraph_test

import (
	"slices"
	"testing"

	"backstay/api"
	"backstay/egraph"
	"backstay/fuzz"
	"backstay/term"
)

func node(op, w int, imm uint32, args ...int) api.Node {
	return api.Node{Op: op, Width: w, Imm: imm, Args: args}
}

func v(i uint32, w int) api.Node {
	return node(api.Var, w, i)
}

func c(n uint32, w int) api.Node {
	return node(api.Const, w, n)
}

var (
	x0 = node(api.Var, 0, 0)
	x1 = node(api.Var, 0, 1)
)

func plain(op int, args ...int) api.Node {
	return node(op, 0, 0, args...)
}

func add(t *testing.T, g *egraph.Graph, l ...api.Node) int {
	t.Helper()
	n, e := g.Add(l)
	if e != api.OK {
		t.Fatal(l, e)
	}
	return n
}

func same(t *testing.T, g *egraph.Graph, a, b int) bool {
	t.Helper()
	is, e := g.Same(a, b)
	if e != api.OK {
		t.Fatal(a, b, e)
	}
	return is
}

// double is x times 2 is x plus x.
var double = api.Rule{Left: []api.Node{x0, c(2, 0), plain(api.Mul, 0, 1)}, Right: []api.Node{x0, plain(api.Add, 0, 0)}}

// turned is x plus y is y plus x; moved is (x plus y) plus y is x plus (y plus y).
var turned = api.Rule{Left: []api.Node{x0, x1, plain(api.Add, 0, 1)}, Right: []api.Node{x1, x0, plain(api.Add, 0, 1)}}

// P14.1
func TestAdd(t *testing.T) {
	g := egraph.New()
	a := add(t, g, v(0, 8))
	b := add(t, g, v(1, 4), c(1, 8), v(0, 8), node(api.Add, 8, 0, 2, 1))
	again := add(t, g, v(0, 8))
	if a != 0 || b != 1 || again != 2 || g.Classes() != 3 || g.Nodes() != 3 || !same(t, g, 0, 2) || same(t, g, 0, 1) {
		t.Error(a, b, again, g.Classes(), g.Nodes())
	}
	for i, x := range []struct {
		l []api.Node
		e api.Errno
	}{
		{nil, api.ErrLarge},
		{[]api.Node{v(4, 8)}, api.ErrArg},
		{[]api.Node{v(0, 4)}, api.ErrRule},
		{[]api.Node{v(1, 8)}, api.OK},
		{[]api.Node{v(1, 4)}, api.ErrRule},
		{chain(59), api.ErrLarge},
		{chain(56), api.OK},
	} {
		before := g.Classes()
		if _, e := g.Add(x.l); e != x.e || e != api.OK && g.Classes() != before {
			t.Error(i, e, g.Classes(), before)
		}
	}
	if n := add(t, g, c(1, 8)); n != 5 || g.Classes() != 60 {
		t.Error(n, g.Classes())
	}
	if _, e := g.Add([]api.Node{c(77, 8)}); e != api.ErrLarge {
		t.Error(e)
	}
	for _, n := range []int{-1, 6} {
		_, e1 := g.Same(n, 0)
		_, e2 := g.Same(0, n)
		_, e3 := g.Width(n)
		_, _, e4 := g.Extract(n)
		for _, e := range []api.Errno{g.Union(n, 0), g.Union(0, n), e1, e2, e3, e4} {
			if e != api.ErrNone {
				t.Error(n, e)
			}
		}
	}
}

// chain has n nodes of width 8 over Var 0.
func chain(n int) []api.Node {
	l := []api.Node{v(0, 8)}
	for i := range n {
		l = append(l, node(api.Mul, 8, 0, i, i))
	}
	return l
}

func TestNil(t *testing.T) {
	var g *egraph.Graph
	_, e1 := g.Add([]api.Node{c(1, 1)})
	is, e2 := g.Same(0, 0)
	n, e3 := g.Width(0)
	_, e4 := g.Saturate(nil, 0)
	l, cost, e5 := g.Extract(0)
	_, e6 := g.Agrees(make([]uint32, 4))
	for i, e := range []api.Errno{e1, e2, e3, e4, e5, e6, g.Union(0, 0)} {
		if e != api.ErrState {
			t.Error(i, e)
		}
	}
	if is || n != 0 || l != nil || cost != 0 || g.Classes() != 0 || g.Nodes() != 0 || g.Copy() != nil {
		t.Error("a nil graph has nothing")
	}
	zero := &egraph.Graph{}
	if n, e := zero.Add([]api.Node{c(1, 1)}); n != 0 || e != api.OK {
		t.Error(n, e)
	}
}

// P14.2
func TestUnion(t *testing.T) {
	g := egraph.New()
	a, b := add(t, g, v(0, 8)), add(t, g, v(1, 8))
	one := add(t, g, v(0, 8), c(1, 8), node(api.Add, 8, 0, 0, 1))
	two := add(t, g, v(1, 8), c(1, 8), node(api.Add, 8, 0, 0, 1))
	other := add(t, g, v(2, 4))
	square := add(t, g, v(1, 8), c(1, 8), node(api.Add, 8, 0, 0, 1), node(api.Mul, 8, 0, 2, 2))
	squared := add(t, g, v(0, 8), c(1, 8), node(api.Add, 8, 0, 0, 1), node(api.Mul, 8, 0, 2, 2))
	kept := g.Copy()
	if e := g.Union(a, other); e != api.ErrType {
		t.Error(e)
	}
	if e := g.Union(a, b); e != api.OK || !same(t, g, one, two) || !same(t, g, square, squared) || g.Classes() != 5 || g.Nodes() != 6 {
		t.Error(e, g.Classes(), g.Nodes())
	}
	if same(t, kept, one, two) || kept.Classes() != 8 || kept.Nodes() != 8 {
		t.Error("the copy is a graph of its own", kept.Classes(), kept.Nodes())
	}
	if w, e := g.Width(other); w != 4 || e != api.OK {
		t.Error(w, e)
	}
	if n := add(t, g, v(1, 8), c(1, 8), node(api.Add, 8, 0, 0, 1)); !same(t, g, n, one) || n != 7 {
		t.Error(n)
	}
}

func numbers(seed int) []int {
	l := make([]int, 60)
	for i := range l {
		seed = seed*6364136223846793005 + 1442695040888963407
		l[i] = seed >> 33
	}
	return l
}

// What is told in another order makes equal answers.
func TestOrder(t *testing.T) {
	for seed := range 300 {
		var terms [][]api.Node
		for k := range 5 {
			terms = append(terms, fuzz.Terms(numbers(seed*5 + k))[:1+(seed+k)%6%len(fuzz.Terms(numbers(seed*5+k)))])
		}
		g, h := egraph.New(), egraph.New()
		var names, other []int
		var used [][]api.Node
		for _, u := range terms {
			if n, e := g.Add(u); e == api.OK {
				names = append(names, n)
				used = append(used, u)
			}
		}
		for i := range used {
			if n, e := h.Add(used[len(used)-1-i]); e == api.OK {
				other = append(other, n)
			}
		}
		if len(other) != len(names) {
			continue
		}
		slices.Reverse(other)
		for i := range names {
			j := (i*3 + seed) % len(names)
			g.Union(names[i], names[j])
		}
		for i := len(names) - 1; i >= 0; i-- {
			j := (i*3 + seed) % len(names)
			h.Union(other[j], other[i])
		}
		if g.Classes() != h.Classes() || g.Nodes() != h.Nodes() {
			t.Error(seed, g.Classes(), h.Classes(), g.Nodes(), h.Nodes())
		}
		for i := range names {
			for j := range names {
				if same(t, g, names[i], names[j]) != same(t, h, other[i], other[j]) {
					t.Error(seed, i, j)
				}
			}
		}
	}
}

// P14.3
func TestSaturate(t *testing.T) {
	g := egraph.New()
	twice := add(t, g, v(0, 8), c(2, 8), node(api.Mul, 8, 0, 0, 1))
	sum := add(t, g, v(0, 8), node(api.Add, 8, 0, 0, 0))
	if done, e := g.Saturate([]api.Rule{double}, 0); done || e != api.OK || same(t, g, twice, sum) {
		t.Error(done, e)
	}
	if done, e := g.Saturate([]api.Rule{double}, 1); done || e != api.OK || !same(t, g, twice, sum) {
		t.Error(done, e)
	}
	if done, e := g.Saturate([]api.Rule{double}, 1); !done || e != api.OK {
		t.Error(done, e)
	}
	if l, cost, e := g.Extract(twice); cost != 1 || e != api.OK || len(l) != 2 || l[1].Op != api.Add {
		t.Error(l, cost, e)
	}
}

// Sums of three in all orders: a class for each set of them, and an operation for each way to make it of two.
func TestSums(t *testing.T) {
	// With two Vars, a rule of three parts takes a constant for the third one.
	g := egraph.New()
	a := add(t, g, v(0, 8), v(1, 8), node(api.Add, 8, 0, 0, 1), c(1, 8), node(api.Add, 8, 0, 2, 3))
	b := add(t, g, v(0, 8), c(1, 8), node(api.Add, 8, 0, 0, 1), v(1, 8), node(api.Add, 8, 0, 3, 2))
	moved := api.Rule{Left: []api.Node{x0, x1, plain(api.Add, 0, 1), c(1, 0), plain(api.Add, 2, 3)}, Right: []api.Node{x0, x1, c(1, 0), plain(api.Add, 1, 2), plain(api.Add, 0, 3)}}
	done, e := g.Saturate([]api.Rule{turned, moved}, 4)
	if !done || e != api.OK || !same(t, g, a, b) || g.Classes() != 7 || g.Nodes() != 15 {
		t.Error(done, e, g.Classes(), g.Nodes())
	}
}

func TestSaturateErrors(t *testing.T) {
	flagged := double
	flagged.Left = slices.Clone(double.Left)
	flagged.Left[2].Flags = 1
	hole := api.Rule{Left: []api.Node{{Op: api.Hole}}, Right: []api.Node{{Op: api.Hole}}}
	g := egraph.New()
	add(t, g, v(0, 8))
	for i, x := range []struct {
		rules  []api.Rule
		rounds int
		e      api.Errno
	}{
		{nil, 4, api.OK},
		{slices.Repeat([]api.Rule{double}, 12), 1, api.OK},
		{make([]api.Rule, 13), 1, api.ErrArg},
		{make([]api.Rule, 1), -1, api.ErrArg},
		{make([]api.Rule, 1), 5, api.ErrArg},
		{[]api.Rule{flagged, {}}, 1, api.ErrLarge},
		{[]api.Rule{flagged}, 1, api.ErrRule},
		{[]api.Rule{double, hole}, 0, api.ErrRule},
	} {
		if done, e := g.Saturate(x.rules, x.rounds); e != x.e || done != (e == api.OK) {
			t.Error(i, done, e)
		}
	}
}

// A rule that makes more and more classes; the graph is as it was before.
func TestSaturateLarge(t *testing.T) {
	grow := api.Rule{Left: []api.Node{x0}, Right: []api.Node{x0, c(0, 0), plain(api.Add, 0, 1), c(0, 0), plain(api.Add, 2, 3)}}
	g := egraph.New()
	var last int
	for i := range uint32(30) {
		last = add(t, g, c(i, 8))
	}
	small := g.Copy()
	if done, e := small.Saturate([]api.Rule{grow}, 4); !done || e != api.OK || small.Classes() != 60 || small.Nodes() != 90 {
		t.Error(done, e, small.Classes(), small.Nodes())
	}
	last = add(t, g, c(30, 8))
	before := g.Nodes()
	if done, e := g.Saturate([]api.Rule{grow}, 4); done || e != api.ErrLarge || g.Nodes() != before || g.Classes() != 31 {
		t.Error(done, e, g.Classes(), g.Nodes())
	}
	if n := add(t, g, c(30, 8)); !same(t, g, n, last) || n != 31 {
		t.Error(n)
	}
	// 46 * 46 ways are too many.
	many := egraph.New()
	for i := range uint32(46) {
		add(t, many, c(i, 8))
	}
	for i := range uint32(46) {
		for k := range uint32(46) {
			n, _ := many.Add([]api.Node{c(i, 8), c(k, 8), node(api.Add, 8, 0, 0, 1)})
			many.Union(n, 0)
		}
	}
	pairs := many.Nodes()
	if done, e := many.Saturate([]api.Rule{turned}, 1); done || e != api.ErrLarge || many.Nodes() != pairs {
		t.Error(done, e, many.Classes(), many.Nodes())
	}
}

// Rules whose roots have the Width 1 take their width from a Var.
func TestComparisons(t *testing.T) {
	less := node(api.Cmp, 1, api.Ult, 0, 1)
	greater := node(api.Cmp, 1, api.Ugt, 1, 0)
	r := api.Rule{Left: []api.Node{x0, x1, less}, Right: []api.Node{x0, x1, greater}}
	g := egraph.New()
	a := add(t, g, v(0, 8), v(1, 8), less)
	b := add(t, g, v(0, 8), v(1, 8), greater)
	d := add(t, g, v(2, 3), v(3, 3), less)
	f := add(t, g, v(2, 3), v(3, 3), greater)
	constant := add(t, g, c(1, 1))
	none := api.Rule{Left: []api.Node{c(1, 1)}, Right: []api.Node{c(0, 1)}}
	if _, e := g.Saturate([]api.Rule{r, none}, 1); e != api.OK || !same(t, g, a, b) || !same(t, g, d, f) || same(t, g, a, d) || same(t, g, constant, a) {
		t.Error(e)
	}
	if g.Classes() != 7 {
		t.Error("a rule without a Var and with a root of Width 1 is never found", g.Classes())
	}
	// Equal Vars are bound to equal classes.
	self := api.Rule{Left: []api.Node{x0, plain(api.Sub, 0, 0)}, Right: []api.Node{c(0, 0)}}
	x := add(t, g, v(0, 8), v(1, 8), node(api.Sub, 8, 0, 0, 1))
	y := add(t, g, v(0, 8), node(api.Sub, 8, 0, 0, 0))
	zero := add(t, g, c(0, 8))
	if _, e := g.Saturate([]api.Rule{self}, 4); e != api.OK || same(t, g, x, zero) || !same(t, g, y, zero) {
		t.Error(e)
	}
}

// A left side is found through any operation of a class.
func TestThroughClasses(t *testing.T) {
	g := egraph.New()
	a := add(t, g, v(0, 8))
	product := add(t, g, v(1, 8), c(2, 8), node(api.Mul, 8, 0, 0, 1))
	outer := add(t, g, v(0, 8), c(2, 8), node(api.Mul, 8, 0, 0, 1))
	g.Union(a, product)
	four := api.Rule{Left: []api.Node{x0, c(2, 0), plain(api.Mul, 0, 1), plain(api.Mul, 2, 1)}, Right: []api.Node{x0, c(4, 0), plain(api.Mul, 0, 1)}}
	if _, e := g.Saturate([]api.Rule{four}, 2); e != api.OK {
		t.Fatal(e)
	}
	if n := add(t, g, v(1, 8), c(4, 8), node(api.Mul, 8, 0, 0, 1)); !same(t, g, n, outer) {
		t.Error("v1 times 4 is v0 times 2")
	}
}

// P14.4
func TestExtract(t *testing.T) {
	g := egraph.New()
	l := chain(20)
	long := add(t, g, l...)
	if _, _, e := g.Extract(long); e != api.ErrLarge {
		t.Error(e)
	}
	short := add(t, g, l[:4]...)
	if u, cost, e := g.Extract(short); cost != 21 || e != api.OK || len(u) != 4 {
		t.Error(u, cost, e)
	}
	g.Union(long, short)
	// The class is one with the third power: it is made of itself, too.
	if u, cost, e := g.Extract(long); cost != 21 || e != api.OK || term.Validate(u) != api.OK {
		t.Error(u, cost, e)
	}
	divided := add(t, g, v(0, 8), v(1, 8), node(api.SRem, 8, 0, 0, 1), node(api.Xor, 8, 0, 2, 2))
	if _, cost, _ := g.Extract(divided); cost != 17 {
		t.Error(cost)
	}
}

func TestAgrees(t *testing.T) {
	g := egraph.New()
	one, two := add(t, g, c(1, 4)), add(t, g, c(2, 4))
	add(t, g, v(1, 4))
	if is, e := g.Agrees(make([]uint32, 4)); !is || e != api.OK {
		t.Error(is, e)
	}
	for _, env := range [][]uint32{nil, {0, 0, 0}, {0, 16, 0, 0}} {
		if _, e := g.Agrees(env); e != api.ErrArg {
			t.Error(env, e)
		}
	}
	if _, e := g.Agrees([]uint32{99, 15, 99, 99}); e != api.OK {
		t.Error(e)
	}
	g.Union(one, two)
	if is, e := g.Agrees(make([]uint32, 4)); is || e != api.OK {
		t.Error(is, e)
	}
	h := egraph.New()
	x := add(t, h, chain(59)...)
	y := add(t, h, v(0, 8))
	if is, _ := h.Agrees([]uint32{3, 0, 0, 0}); !is {
		t.Error("nothing was told")
	}
	h.Union(x, y)
	for n, want := range map[uint32]bool{0: true, 1: true, 3: false} {
		if is, e := h.Agrees([]uint32{n, 0, 0, 0}); is != want || e != api.OK {
			t.Error(n, is, e)
		}
	}
}

// Right rules keep all values of a class equal, and what is extracted means the same.
func TestRightRules(t *testing.T) {
	zero, all := c(0, 0), c(1<<32-1, 0)
	rules := []api.Rule{
		turned,
		double,
		{Left: []api.Node{x0, x1, plain(api.Xor, 0, 1)}, Right: []api.Node{x0, x1, plain(api.Or, 0, 1), plain(api.And, 0, 1), plain(api.Sub, 2, 3)}},
		{Left: []api.Node{x0, plain(api.Sub, 0, 0)}, Right: []api.Node{zero}},
		{Left: []api.Node{x0, zero, plain(api.Or, 0, 1)}, Right: []api.Node{x0}},
		{Left: []api.Node{x0, all, plain(api.And, 0, 1)}, Right: []api.Node{x0}},
		{Left: []api.Node{x0, x1, plain(api.And, 0, 1), plain(api.And, 2, 1)}, Right: []api.Node{x0, x1, plain(api.And, 1, 0)}},
		{Left: []api.Node{x0, x1, node(api.Cmp, 1, api.Slt, 0, 1)}, Right: []api.Node{x0, x1, node(api.Cmp, 1, api.Sgt, 1, 0)}},
	}
	for seed := range 200 {
		u := fuzz.Terms(numbers(seed))
		g := egraph.New()
		n, e := g.Add(u)
		if e != api.OK {
			t.Fatal(seed, e)
		}
		if _, e := g.Saturate(rules, 1+seed%4); e != api.OK && e != api.ErrLarge {
			t.Error(seed, e)
		}
		l, cost, e := g.Extract(n)
		if e == api.OK && (term.Validate(l) != api.OK || cost < 0) {
			t.Error(seed, l, cost, e)
		}
		widths, _ := term.Widths(u)
		for k := range 5 {
			env := make([]uint32, 4)
			for i, w := range widths {
				env[i] = uint32((seed*31+k)*(i+7)*2654435761>>11) & (1<<w - 1)
			}
			if is, e := g.Agrees(env); !is || e != api.OK {
				t.Error(seed, env, is, e)
			}
			a, _ := term.Eval(u, env)
			if b, _ := term.Eval(l, env); e == api.OK && a != b {
				t.Error(seed, env, a, b)
			}
		}
	}
}
