package rule

import (
	"slices"

	"backstay/api"
	"backstay/pool"
)

// match compares a pattern with a term.
type match struct {
	pattern, term []api.Node
	width         int
	vars          [api.MaxVars][]api.Node
	holes         [api.MaxHoles]uint32
	met           [api.MaxHoles]bool
}

// first returns the node of the term that the first node Var or Hole meets, and whether there is one.
func (m *match) first(p, k int) (int, bool) {
	x, y := m.pattern[p], m.term[k]
	if x.Op == api.Var || x.Op == api.Hole {
		return k, true
	}
	if len(x.Args) != len(y.Args) {
		return 0, false
	}
	look := m.first
	for i, a := range x.Args {
		if at, is := look(a, y.Args[i]); is {
			return at, true
		}
	}
	return 0, false
}

// fits compares a node of the pattern with one of the term, and binds what is met.
func (m *match) fits(p, k int) bool {
	x, y := m.pattern[p], m.term[k]
	w := x.Width
	if w == 0 {
		w = m.width
	}
	if y.Width != w {
		return false
	}
	switch x.Op {
	case api.Var:
		return m.bind(x.Imm, k)
	case api.Hole:
		return y.Op == api.Const && m.hole(x.Imm, y.Imm)
	case api.Const:
		return y.Op == api.Const && y.Imm == cut(w, x.Imm)
	}
	if x.Op != y.Op || x.Imm != y.Imm || x.Flags != y.Flags {
		return false
	}
	compare := m.fits
	for i, a := range x.Args {
		if !compare(a, y.Args[i]) {
			return false
		}
	}
	return true
}

func (m *match) bind(v uint32, k int) bool {
	part := pool.Share(m.term, k)
	if m.vars[v] == nil {
		m.vars[v] = part
	}
	return pool.Same(m.vars[v], part)
}

func (m *match) hole(h, n uint32) bool {
	if !m.met[h] {
		m.met[h] = true
		m.holes[h] = n
	}
	return m.holes[h] == n
}

// find matches the left side of a rule with a term.
func find(r api.Rule, t []api.Node) (*match, bool) {
	m := &match{pattern: r.Left, term: t}
	p, k := len(r.Left)-1, len(t)-1
	m.width = t[k].Width
	if r.Left[p].Width == 1 {
		at, is := m.first(p, k)
		if !is {
			return nil, false
		}
		m.width = t[at].Width
	}
	return m, m.fits(p, k) && meets(r.Pre, m.width, m.holes[:])
}

// Match compares the left side of a rule with a term, and returns what its Vars and Holes are bound to.
func Match(r api.Rule, t []api.Node) ([][]api.Node, []uint32, bool, api.Errno) {
	if e := validateBoth(r, t); e != api.OK {
		return nil, nil, false, e
	}
	m, is := find(r, t)
	if !is {
		return nil, nil, false, api.OK
	}
	return slices.Clone(m.vars[:]), slices.Clone(m.holes[:]), true, api.OK
}

func validateBoth(r api.Rule, t []api.Node) api.Errno {
	if e := Validate(r); e != api.OK {
		return e
	}
	return ValidateFlagged(t)
}

// Rewrite returns the right side of a rule with what is bound, if the left side matches a term.
func Rewrite(r api.Rule, t []api.Node) ([]api.Node, bool, api.Errno) {
	if e := validateBoth(r, t); e != api.OK {
		return nil, false, e
	}
	m, is := find(r, t)
	if !is {
		return nil, false, api.OK
	}
	right := side(r.Right, m.width, m.holes[:])
	p := pool.New()
	p.Take(right, len(right)-1, func(x api.Node) (int, bool) {
		if x.Op != api.Var {
			return 0, false
		}
		bound := m.vars[x.Imm]
		return p.Take(bound, len(bound)-1, pool.Keep), true
	})
	if len(p.Nodes()) > api.MaxNodes {
		return nil, false, api.ErrLarge
	}
	return p.Nodes(), true, api.OK
}
