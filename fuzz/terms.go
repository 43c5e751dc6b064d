package fuzz

import "backstay/api"

// mostNodes is how many nodes a term has that is made.
const mostNodes = 20

// termMaker makes a term.
type termMaker struct {
	take  func(n int) int
	vars  [api.MaxVars]int
	nodes []api.Node
}

func (m *termMaker) make() []api.Node {
	for v := range m.vars {
		m.vars[v] = widths[m.take(4)]
	}
	n := 1 + m.take(mostNodes)
	for len(m.nodes) < n {
		m.node()
	}
	return m.nodes
}

// like returns a node of a Width, and whether there is one.
func (m *termMaker) like(w int) (int, bool) {
	var l []int
	for i, x := range m.nodes {
		if x.Width == w {
			l = append(l, i)
		}
	}
	if len(l) == 0 {
		return 0, false
	}
	return l[len(l)-1-m.take(len(l))], true
}

func (m *termMaker) add(op, w int, imm uint32, args ...int) {
	m.nodes = append(m.nodes, api.Node{Op: op, Width: w, Args: args, Imm: imm})
}

func (m *termMaker) node() {
	choice := m.take(12)
	if len(m.nodes) == 0 || choice == 0 {
		v := m.take(api.MaxVars)
		m.add(api.Var, m.vars[v], uint32(v))
		return
	}
	a := len(m.nodes) - 1 - m.take(len(m.nodes))
	w := m.nodes[a].Width
	b, _ := m.like(w)
	switch {
	case choice == 1:
		m.add(api.Const, w, uint32(m.take(256))&(1<<w-1))
	case choice == 2:
		m.add(api.Cmp, 1, uint32(m.take(10)), a, b)
	case choice == 3:
		m.extend(a, w)
	case choice == 4:
		m.pick(a, b, w)
	default:
		m.add(api.Add+m.take(13), w, 0, a, b)
	}
}

func (m *termMaker) pick(a, b, w int) {
	if c, is := m.like(1); is {
		m.add(api.Select, w, 0, c, a, b)
		return
	}
	m.add(api.Cmp, 1, api.Ult, a, b)
}

func (m *termMaker) extend(a, w int) {
	to := widths[m.take(7)]
	switch {
	case to > w:
		m.add(api.ZExt+m.take(2), to, 0, a)
	case to < w:
		m.add(api.Trunc, to, 0, a)
	default:
		m.add(api.Sub, w, 0, a, a)
	}
}
