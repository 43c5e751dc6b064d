package term

import (
	"slices"

	"backstay/api"
)

// key is what makes a node of a shared term different from the others.
type key struct {
	op, width int
	imm       uint32
	args      [3]int
}

// pool holds nodes, each one once.
type pool struct {
	nodes []api.Node
	known map[key]int
}

func newPool() *pool {
	return &pool{known: map[key]int{}}
}

// add returns the number of a node; it becomes the last one if it is new.
func (p *pool) add(op, width int, imm uint32, args []int) int {
	k := key{op: op, width: width, imm: imm}
	copy(k.args[:], args)
	if at, is := p.known[k]; is {
		return at
	}
	p.known[k] = len(p.nodes)
	p.nodes = append(p.nodes, api.Node{Op: op, Width: width, Args: slices.Clone(args), Imm: imm})
	return len(p.nodes) - 1
}

// take adds what leads to a node of a term, and returns its number; where swap has a number for a node, it stands for it.
func (p *pool) take(t []api.Node, root int, swap func(x api.Node) (int, bool)) int {
	places := make([]int, len(t))
	for i := range places {
		places[i] = -1
	}
	var visit func(k int) int
	visit = func(k int) int {
		if places[k] >= 0 {
			return places[k]
		}
		if at, is := swap(t[k]); is {
			places[k] = at
			return at
		}
		var args []int
		for _, a := range t[k].Args {
			at := visit(a)
			args = append(args, at)
		}
		places[k] = p.add(t[k].Op, t[k].Width, t[k].Imm, args)
		return places[k]
	}
	return visit(root)
}

func keep(x api.Node) (int, bool) {
	return 0, false
}

// share is for valid terms.
func share(t []api.Node, root int) []api.Node {
	p := newPool()
	p.take(t, root, keep)
	return p.nodes
}

// Share returns a term without equal nodes and without those that do not lead to the root.
func Share(t []api.Node) ([]api.Node, api.Errno) {
	if e := Validate(t); e != api.OK {
		return nil, e
	}
	return share(t, len(t)-1), api.OK
}

// Part returns Share of the term that ends with the node k.
func Part(t []api.Node, k int) ([]api.Node, api.Errno) {
	if e := Validate(t); e != api.OK {
		return nil, e
	}
	if k < 0 || k >= len(t) {
		return nil, api.ErrNone
	}
	return share(t, k), api.OK
}

func sameNode(x, y api.Node) bool {
	return x.Op == y.Op && x.Width == y.Width && x.Imm == y.Imm && slices.Equal(x.Args, y.Args)
}

// Same reports whether Share of two terms is equal.
func Same(t, u []api.Node) (bool, api.Errno) {
	s, e := Share(t)
	if e != api.OK {
		return false, e
	}
	r, e := Share(u)
	if e != api.OK {
		return false, e
	}
	return slices.EqualFunc(s, r, sameNode), api.OK
}

// clash tells whether a variable has two widths.
func clash(t []api.Node) bool {
	l := widths(t)
	return slices.ContainsFunc(t, func(x api.Node) bool { return x.Op == api.Var && l[x.Imm] != x.Width })
}

// Put replaces a variable by a term.
func Put(t []api.Node, v int, u []api.Node) ([]api.Node, api.Errno) {
	if e := Validate(t); e != api.OK {
		return nil, e
	}
	if e := Validate(u); e != api.OK {
		return nil, e
	}
	if v < 0 || v >= api.MaxVars {
		return nil, api.ErrArg
	}
	w := widths(t)[v]
	if w == 0 {
		return nil, api.ErrNone
	}
	if u[len(u)-1].Width != w {
		return nil, api.ErrType
	}
	p := newPool()
	p.take(t, len(t)-1, func(x api.Node) (int, bool) {
		if x.Op != api.Var || int(x.Imm) != v {
			return 0, false
		}
		return p.take(u, len(u)-1, keep), true
	})
	if clash(p.nodes) {
		return nil, api.ErrRule
	}
	if len(p.nodes) > api.MaxNodes {
		return nil, api.ErrLarge
	}
	return p.nodes, api.OK
}

// Join returns Share of a new root over the roots of the parts.
func Join(op, width int, imm uint32, parts [][]api.Node) ([]api.Node, api.Errno) {
	for _, part := range parts {
		if e := Validate(part); e != api.OK {
			return nil, e
		}
	}
	if !isOp(op) {
		return nil, api.ErrArg
	}
	p := newPool()
	var args []int
	for _, part := range parts {
		at := p.take(part, len(part)-1, keep)
		args = append(args, at)
	}
	joined := append(p.nodes, api.Node{Op: op, Width: width, Args: args, Imm: imm})
	if e := Validate(joined); e != api.OK {
		return nil, e
	}
	return joined, api.OK
}
