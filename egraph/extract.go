package egraph

import (
	"backstay/api"
	"backstay/pool"
	"backstay/term"
)

// The limits of costs.
const (
	mostCost = 1000000
	endless  = 1 << 40
)

func costOf(op int) int {
	switch op {
	case api.Const, api.Var:
		return 0
	case api.UDiv, api.URem, api.SDiv, api.SRem:
		return 8
	case api.Mul:
		return 3
	}
	return 1
}

// best is the cheapest member of each class, and its tree cost.
type best struct {
	costs   []int
	members []member
}

// cheapest looks for cheaper members until there are none.
func (g *Graph) cheapest() best {
	b := best{make([]int, len(g.parents)), make([]member, len(g.parents))}
	for c := range b.costs {
		b.costs[c] = endless
	}
	for changed := true; changed; {
		changed = false
		for _, m := range g.members {
			cost := costOf(m.op)
			for _, a := range m.args[:m.count] {
				cost = min(cost+b.costs[g.find(a)], endless)
			}
			if c := g.find(m.class); cost < b.costs[c] {
				b.costs[c] = cost
				b.members[c] = m
				changed = true
			}
		}
	}
	return b
}

// Extract returns a term of a class with the smallest tree cost.
func (g *Graph) Extract(a int) ([]api.Node, int, api.Errno) {
	root, e := g.class(a)
	if e != api.OK {
		return nil, 0, e
	}
	b := g.cheapest()
	if b.costs[root] > mostCost {
		return nil, 0, api.ErrLarge
	}
	p := pool.New()
	built := map[int]int{}
	var build func(c int) int
	build = func(c int) int {
		if k, is := built[c]; is {
			return k
		}
		m := b.members[c]
		var args []int
		for _, arg := range m.args[:m.count] {
			k := build(g.find(arg))
			args = append(args, k)
		}
		built[c] = p.Add(api.Node{Op: m.op, Width: m.width, Args: args, Imm: m.imm})
		return built[c]
	}
	build(root)
	return p.Nodes(), b.costs[root], api.OK
}

// value is that of a member over values of classes.
func (g *Graph) value(m member, values, env []uint32) uint32 {
	var t []api.Node
	var args []int
	for _, a := range m.args[:m.count] {
		c := g.find(a)
		args = append(args, len(t))
		t = append(t, api.Node{Op: api.Const, Width: g.widths[c], Imm: values[c]})
	}
	n, _ := term.Eval(append(t, api.Node{Op: m.op, Width: m.width, Args: args, Imm: m.imm}), env)
	return n
}

// Agrees reports whether, in an environment, all operations of each class have one value.
func (g *Graph) Agrees(env []uint32) (bool, api.Errno) {
	if g == nil {
		return false, api.ErrState
	}
	if len(env) != api.MaxVars {
		return false, api.ErrArg
	}
	for v, w := range g.vars {
		if w > 0 && uint64(env[v]) >= 1<<w {
			return false, api.ErrArg
		}
	}
	values := g.values(env)
	for _, m := range g.members {
		if g.value(m, values, env) != values[g.find(m.class)] {
			return false, api.OK
		}
	}
	return true, api.OK
}

// values are those of the classes: each class has the value of any term of it.
func (g *Graph) values(env []uint32) []uint32 {
	values, known := make([]uint32, len(g.parents)), make([]bool, len(g.parents))
	for changed := true; changed; {
		changed = false
		for _, m := range g.members {
			c, ready := g.find(m.class), true
			for _, a := range m.args[:m.count] {
				ready = ready && known[g.find(a)]
			}
			if ready && !known[c] {
				values[c] = g.value(m, values, env)
				known[c], changed = true, true
			}
		}
	}
	return values
}
