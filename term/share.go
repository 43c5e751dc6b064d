package term

import (
	"slices"

	"backstay/api"
	"backstay/pool"
)

// Share returns a term without equal nodes and without those that do not lead to the root.
func Share(t []api.Node) ([]api.Node, api.Errno) {
	if e := Validate(t); e != api.OK {
		return nil, e
	}
	return pool.Share(t, len(t)-1), api.OK
}

// Part returns Share of the term that ends with the node k.
func Part(t []api.Node, k int) ([]api.Node, api.Errno) {
	if e := Validate(t); e != api.OK {
		return nil, e
	}
	if k < 0 || k >= len(t) {
		return nil, api.ErrNone
	}
	return pool.Share(t, k), api.OK
}

// Same reports whether Share of two terms is equal.
func Same(t, u []api.Node) (bool, api.Errno) {
	s, e := Share(t)
	if e != api.OK {
		return false, e
	}
	r, e := Share(u)
	if e != api.OK {
		return false, e
	}
	return pool.Same(s, r), api.OK
}

// clash tells whether a variable has two widths.
func clash(t []api.Node) bool {
	l := widths(t)
	return slices.ContainsFunc(t, func(x api.Node) bool { return x.Op == api.Var && l[x.Imm] != x.Width })
}

// Put replaces a variable by a term.
func Put(t []api.Node, v int, u []api.Node) ([]api.Node, api.Errno) {
	if e := Validate(t); e != api.OK {
		return nil, e
	}
	if e := Validate(u); e != api.OK {
		return nil, e
	}
	if v < 0 || v >= api.MaxVars {
		return nil, api.ErrArg
	}
	w := widths(t)[v]
	if w == 0 {
		return nil, api.ErrNone
	}
	if u[len(u)-1].Width != w {
		return nil, api.ErrType
	}
	p := pool.New()
	p.Take(t, len(t)-1, func(x api.Node) (int, bool) {
		if x.Op != api.Var || int(x.Imm) != v {
			return 0, false
		}
		return p.Take(u, len(u)-1, pool.Keep), true
	})
	if clash(p.Nodes()) {
		return nil, api.ErrRule
	}
	if len(p.Nodes()) > api.MaxNodes {
		return nil, api.ErrLarge
	}
	return p.Nodes(), api.OK
}

// Join returns Share of a new root over the roots of the parts.
func Join(op, width int, imm uint32, parts [][]api.Node) ([]api.Node, api.Errno) {
	for _, part := range parts {
		if e := Validate(part); e != api.OK {
			return nil, e
		}
	}
	if !isOp(op) {
		return nil, api.ErrArg
	}
	p := pool.New()
	var args []int
	for _, part := range parts {
		at := p.Take(part, len(part)-1, pool.Keep)
		args = append(args, at)
	}
	joined := append(p.Nodes(), api.Node{Op: op, Width: width, Args: args, Imm: imm})
	if e := Validate(joined); e != api.OK {
		return nil, e
	}
	return joined, api.OK
}
