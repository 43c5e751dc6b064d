package egraph_test

import (
	"slices"
	"testing"

	"backstay/api"
	"backstay/egraph"
	"backstay/fuzz"
	"backstay/rule"
	"backstay/term"
)

// entry is an operation in a class.
type entry struct {
	op, width int
	imm       uint32
	args      []int
	class     int
}

// naive is an equality graph by the definition, without care for time.
type naive struct {
	parents []int
	entries []entry
	names   []int
}

func (g *naive) find(c int) int {
	for g.parents[c] != c {
		c = g.parents[c]
	}
	return c
}

func (g *naive) same(x, y entry) bool {
	if x.op != y.op || x.width != y.width || x.imm != y.imm || len(x.args) != len(y.args) {
		return false
	}
	for i := range x.args {
		if g.find(x.args[i]) != g.find(y.args[i]) {
			return false
		}
	}
	return true
}

// put adds an operation; fresh tells whether it is new.
func (g *naive) put(x entry) (int, bool) {
	for _, y := range g.entries {
		if g.same(x, y) {
			return g.find(y.class), false
		}
	}
	x.class = len(g.parents)
	g.parents = append(g.parents, x.class)
	g.entries = append(g.entries, x)
	return x.class, true
}

func (g *naive) union(a, b int) bool {
	a, b = g.find(a), g.find(b)
	g.parents[a] = b
	return a != b
}

// close tells all that follows, and leaves equal operations out.
func (g *naive) close() {
	for changed := true; changed; {
		changed = false
		var left []entry
		for _, x := range g.entries {
			at := slices.IndexFunc(left, func(y entry) bool { return g.same(x, y) })
			if at < 0 {
				left = append(left, x)
			} else if g.union(left[at].class, x.class) {
				changed = true
			}
		}
		g.entries = left
	}
}

func (g *naive) classes() []int {
	var l []int
	for c := range g.parents {
		if g.find(c) == c {
			l = append(l, c)
		}
	}
	return l
}

func (g *naive) width(c int) int {
	for _, x := range g.entries {
		if g.find(x.class) == g.find(c) {
			return x.width
		}
	}
	return 0
}

func (g *naive) add(t []api.Node) int {
	s, _ := term.Share(t)
	var places []int
	for _, x := range s {
		e := entry{op: x.Op, width: x.Width, imm: x.Imm}
		for _, a := range x.Args {
			e.args = append(e.args, places[a])
		}
		c, _ := g.put(e)
		places = append(places, c)
	}
	g.names = append(g.names, places[len(places)-1])
	return len(g.names) - 1
}

func imm(x api.Node, w int) uint32 {
	if x.Op == api.Const {
		return x.Imm & uint32(1<<w-1)
	}
	return x.Imm
}

// match tells all bindings (-1: none) with which a node of a pattern is in a class, on top of one.
func (g *naive) match(p []api.Node, k, c, w int, bound [2]int) [][2]int {
	x := p[k]
	width := x.Width
	if width == 0 {
		width = w
	}
	if g.width(c) != width {
		return nil
	}
	if x.Op == api.Var {
		if bound[x.Imm] >= 0 && bound[x.Imm] != c {
			return nil
		}
		bound[x.Imm] = c
		return [][2]int{bound}
	}
	var all [][2]int
	for _, e := range g.entries {
		if g.find(e.class) != c || e.op != x.Op || e.imm != imm(x, width) {
			continue
		}
		l := [][2]int{bound}
		for i, a := range x.Args {
			var next [][2]int
			for _, b := range l {
				next = append(next, g.match(p, a, g.find(e.args[i]), w, b)...)
			}
			l = next
		}
		for _, b := range l {
			if !slices.Contains(all, b) {
				all = append(all, b)
			}
		}
	}
	return all
}

type found struct {
	r        api.Rule
	c, w     int
	bindings [2]int
}

func (g *naive) ways(r api.Rule) []found {
	root := len(r.Left) - 1
	var l []found
	for _, c := range g.classes() {
		widths := []int{g.width(c)}
		if r.Left[root].Width == 1 {
			widths = []int{1, 2, 3, 4, 8, 16, 32}
		}
		for _, w := range widths {
			for _, b := range g.match(r.Left, root, c, w, [2]int{-1, -1}) {
				if r.Left[root].Width == 0 || b != [2]int{-1, -1} {
					l = append(l, found{r, c, w, b})
				}
			}
		}
	}
	return l
}

// round tells whether something is new, and how many ways there were.
func (g *naive) round(rules []api.Rule) (bool, int) {
	var l []found
	for _, r := range rules {
		l = append(l, g.ways(r)...)
	}
	fresh := false
	for _, f := range l {
		needed := map[int]bool{len(f.r.Right) - 1: true}
		for k := len(f.r.Right) - 1; k >= 0; k-- {
			for _, a := range f.r.Right[k].Args {
				needed[a] = needed[a] || needed[k]
			}
		}
		places := make([]int, len(f.r.Right))
		for k, x := range f.r.Right {
			if !needed[k] {
				continue
			}
			if x.Op == api.Var {
				places[k] = f.bindings[x.Imm]
				continue
			}
			w := x.Width
			if w == 0 {
				w = f.w
			}
			e := entry{op: x.Op, width: w, imm: imm(x, w)}
			for _, a := range x.Args {
				e.args = append(e.args, places[a])
			}
			c, is := g.put(e)
			places[k] = c
			fresh = fresh || is
		}
		is := g.union(places[len(places)-1], f.c)
		fresh = fresh || is
	}
	g.close()
	return fresh, len(l)
}

type random struct{ seed int }

func (r *random) next(n int) int {
	r.seed = r.seed*6364136223846793005 + 1442695040888963407
	return int(uint(r.seed)>>33) % n
}

// some returns one of a few operations.
func (r *random) some() int {
	return []int{api.Add, api.Xor, api.Mul}[r.next(3)]
}

// pattern makes a side of a rule: a Var, or one or two operations.
func (r *random) pattern(compared bool) []api.Node {
	l := []api.Node{x0, x1, c(uint32(r.next(2)), 0)}
	for range r.next(3) {
		a, b := r.next(len(l)), r.next(len(l))
		l = append(l, plain(r.some(), a, b))
	}
	if compared {
		return append(l, node(api.Cmp, 1, uint32(r.next(2)), r.next(len(l)), len(l)-1))
	}
	if len(l) == 3 {
		return append(l, l[r.next(3)])
	}
	return l
}

// term makes a term of few operations.
func (r *random) term() []api.Node {
	l := []api.Node{v(0, 4), v(1, 4), c(uint32(r.next(2)), 4)}
	for range 1 + r.next(3) {
		a, b := r.next(len(l)), r.next(len(l))
		l = append(l, node(r.some(), 4, 0, a, b))
	}
	if r.next(4) == 0 {
		l = append(l, node(api.Cmp, 1, uint32(r.next(2)), r.next(len(l)), len(l)-1))
	}
	return l
}

// P14.3 by its definition.
func TestAgainstDefinition(t *testing.T) {
	done, large, ways := 0, 0, 0
	for seed := range 2500 {
		r := &random{seed}
		var rules []api.Rule
		for len(rules) < 1+r.next(6) {
			compared := r.next(4) == 0
			x := api.Rule{Left: r.pattern(compared), Right: r.pattern(compared)}
			if rule.Validate(x) == api.OK {
				rules = append(rules, x)
			}
		}
		g, h := egraph.New(), &naive{}
		for k := range 6 {
			u := fuzz.Terms(numbers(seed*3 + k))
			if k > 0 {
				u = r.term()
			}
			if _, e := g.Add(u); e == api.OK {
				h.add(u)
			}
		}
		for range r.next(3) {
			a, b := r.next(len(h.names)), r.next(len(h.names))
			if g.Union(a, b) == api.OK {
				h.union(h.names[a], h.names[b])
				h.close()
			}
		}
		rounds := r.next(5)
		was := g.Nodes()
		got, e := g.Saturate(rules, rounds)
		if e == api.ErrLarge {
			large++
			if g.Nodes() != was {
				t.Error(seed, "the graph has changed")
			}
			continue
		}
		want := false
		for range rounds {
			fresh, n := h.round(rules)
			ways += n
			if !fresh {
				want = true
				break
			}
		}
		done++
		if got != want || e != api.OK || g.Classes() != len(h.classes()) || g.Nodes() != len(h.entries) {
			t.Fatal(seed, got, want, e, g.Classes(), len(h.classes()), g.Nodes(), len(h.entries))
		}
		for a := range h.names {
			for b := range h.names {
				if same(t, g, a, b) != (h.find(h.names[a]) == h.find(h.names[b])) {
					t.Error(seed, a, b)
				}
			}
		}
	}
	if done < 300 || ways < 5000 {
		t.Error("too few", done, large, ways)
	}
}
