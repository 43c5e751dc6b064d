package flow

import (
	"slices"
	"testing"

	"backstay/api"
)

// graphs tells some graphs of each shape: all of 3 nodes, and some of more by a rule.
func graphs(check func(g [][]int)) {
	choices := [][]int{nil, {0}, {1}, {2}, {0, 1}, {1, 2}, {2, 1}, {2, 2}, {0, 2}}
	for _, a := range choices {
		for _, b := range choices {
			for _, c := range choices {
				check([][]int{a, b, c})
			}
		}
	}
	seed := 7
	for range 800 {
		g := make([][]int, 2+seed%7)
		for v := range g {
			seed = (seed*1103515245 + 12345) % (1 << 31)
			for i := range seed >> 8 % 3 {
				g[v] = append(g[v], seed>>(4+5*i)%len(g))
			}
		}
		check(g)
	}
}

// leads reports whether a way leads from a to b that does not go through a node.
func leads(g [][]int, a, b, gone int) bool {
	seen := map[int]bool{}
	work := []int{a}
	for len(work) > 0 {
		v := work[0]
		work = work[1:]
		if v == gone || seen[v] {
			continue
		}
		seen[v] = true
		work = append(work, g[v]...)
	}
	return seen[b]
}

func isBack(g [][]int, a, b int) bool {
	return leads(g, 0, a, -1) && slices.Contains(g[a], b) && !leads(g, 0, a, b)
}

// P2.1
func TestErrors(t *testing.T) {
	for _, c := range []struct {
		g [][]int
		e api.Errno
	}{
		{nil, api.ErrLarge},
		{make([][]int, 11), api.ErrLarge},
		{make([][]int, 10), api.OK},
		{[][]int{{0, 0, 0}}, api.ErrLarge},
		{[][]int{{1}, {0, 0, 0}}, api.ErrLarge},
		{[][]int{{9}, {0, 0, 0}}, api.ErrLarge},
		{[][]int{{1}}, api.ErrArg},
		{[][]int{{-1}}, api.ErrArg},
		{[][]int{{0, 0}}, api.OK},
	} {
		if e := Validate(c.g); e != c.e {
			t.Error(c, e)
		}
		if _, e := Order(c.g); e != c.e {
			t.Error(c, e)
		}
	}
	g := [][]int{{1}, nil, {1}}
	for _, c := range []struct {
		v int
		e api.Errno
	}{{-1, api.ErrNone}, {3, api.ErrNone}, {2, api.ErrState}, {1, api.OK}} {
		if _, e := Dominates(g, c.v, 0); e != c.e {
			t.Error(c, e)
		}
		if _, e := Dominates(g, 0, c.v); e != c.e {
			t.Error(c, e)
		}
		if _, _, e := Parent(g, c.v); e != c.e {
			t.Error(c, e)
		}
		if _, e := Depth(g, c.v); e != c.e {
			t.Error(c, e)
		}
	}
	if _, e := Dominates(g, 2, 3); e != api.ErrNone {
		t.Error("what is not a node comes before what is not reached", e)
	}
	if l, e := Before(g, 2); l != nil || e != api.OK {
		t.Error(l, e)
	}
	if _, e := Before(g, 3); e != api.ErrNone {
		t.Error(e)
	}
	if _, e := Loop(g, 1); e != api.ErrState {
		t.Error(e)
	}
	if _, e := Loop(g, 3); e != api.ErrNone {
		t.Error(e)
	}
	for _, to := range [][]int{nil, {0, 1}, {1, 0, 2}, {0, 1, 1}, {0, 1, 3}, {0, -1, 2}} {
		if _, e := Rename(g, to); e != api.ErrArg {
			t.Error(to, e)
		}
	}
}

// P2.2
func TestOrders(t *testing.T) {
	g := [][]int{{1}, {2, 3}, {1}, nil}
	if l, _ := Order(g); !slices.Equal(l, []int{0, 1, 3, 2}) {
		t.Error(l)
	}
	if l, _ := Order([][]int{{1, 2}, {3}, {3}, nil, {3}}); !slices.Equal(l, []int{0, 2, 1, 3}) {
		t.Error(l)
	}
	graphs(func(g [][]int) {
		seen, _ := Reached(g)
		order, _ := Order(g)
		sorted := slices.Sorted(slices.Values(order))
		if !slices.Equal(sorted, seen) || order[0] != 0 {
			t.Error(g, seen, order)
		}
		for v := range g {
			if slices.Contains(seen, v) != leads(g, 0, v, -1) {
				t.Error(g, v, seen)
			}
			l, _ := Before(g, v)
			for u := range g {
				if slices.Contains(l, u) != slices.Contains(g[u], v) {
					t.Error(g, v, l)
				}
			}
		}
		if is, _ := IsReducible(g); !is {
			return
		}
		for i, v := range order {
			for _, next := range g[v] {
				if j := slices.Index(order, next); j <= i && !isBack(g, v, next) {
					t.Error(g, order, v, next)
				}
			}
		}
	})
}

// P2.3
func TestDominatorsAndLoops(t *testing.T) {
	graphs(func(g [][]int) {
		backs, _ := Backs(g)
		var wants [][2]int
		heads := map[int]bool{}
		for a := range g {
			for b := range g {
				if isBack(g, a, b) {
					wants = append(wants, [2]int{a, b})
					heads[b] = true
				}
			}
		}
		if !slices.Equal(backs, wants) {
			t.Error(g, backs, wants)
		}
		seen, _ := Reached(g)
		for _, b := range seen {
			parent, has, _ := Parent(g, b)
			if has != (b != 0) {
				t.Error(g, b, parent, has)
			}
			for _, a := range seen {
				is, _ := Dominates(g, a, b)
				if is != !leads(g, 0, b, a) {
					t.Error(g, a, b, is)
				}
				if above := has && !leads(g, 0, parent, a); above != (is && a != b) {
					t.Error(g, a, b, parent)
				}
			}
			depth := 0
			for head := range heads {
				in := b == head
				for _, edge := range backs {
					in = in || edge[1] == head && leads(g, b, edge[0], head)
				}
				loop, _ := Loop(g, head)
				if slices.Contains(loop, b) != in || !slices.IsSorted(loop) {
					t.Error(g, head, loop, b)
				}
				if in {
					depth++
				}
			}
			if d, _ := Depth(g, b); d != depth {
				t.Error(g, b, d, depth)
			}
		}
	})
}

// P2.4
func TestShapesAndNames(t *testing.T) {
	if is, _ := IsReducible([][]int{{1, 2}, {2}, {1}}); is {
		t.Error("two entries of a ring")
	}
	if l, _ := Critical([][]int{{1, 2}, {2}, nil}); !slices.Equal(l, [][2]int{{0, 2}}) {
		t.Error(l)
	}
	if l, _ := Critical([][]int{{1, 1}, nil, {1}}); l != nil {
		t.Error("one successor twice is no choice", l)
	}
	if l, _ := Critical([][]int{{1, 2}, nil, nil, {2}}); !slices.Equal(l, [][2]int{{0, 2}}) {
		t.Error("a node before that is not reached counts", l)
	}
	graphs(func(g [][]int) {
		forward := make([][]int, len(g))
		for v, next := range g {
			for _, u := range next {
				if leads(g, 0, v, -1) && !isBack(g, v, u) {
					forward[v] = append(forward[v], u)
				}
			}
		}
		free := true
		for v := range g {
			for _, u := range forward[v] {
				free = free && !leads(forward, u, v, -1)
			}
		}
		if is, _ := IsReducible(g); is != free {
			t.Error(g, is)
		}
		to := make([]int, len(g))
		for v := range to {
			if v > 0 {
				to[v] = len(g) - v
			}
		}
		h, e := Rename(g, to)
		if e != api.OK {
			t.Fatal(g, e)
		}
		order, _ := Order(g)
		renamed, _ := Order(h)
		for i, v := range order {
			if renamed[i] != to[v] {
				t.Error(g, h, order, renamed)
			}
		}
		for v, next := range g {
			for i, u := range next {
				if h[to[v]][i] != to[u] {
					t.Error(g, h)
				}
			}
		}
	})
}
