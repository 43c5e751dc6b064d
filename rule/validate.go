package rule

import (
	"slices"

	"backstay/api"
	"backstay/pool"
)

// mostConds is how many preconditions a rule may have.
const mostConds = 4

func flagsFit(op, flags int) bool {
	switch op {
	case api.Add, api.Sub, api.Mul, api.Shl:
		return flags >= 0 && flags <= 3
	case api.UDiv, api.SDiv, api.LShr, api.AShr:
		return flags == 0 || flags == api.Exact
	}
	return flags == 0
}

// argsOf returns how many Args an operation of patterns has; -1 if it is none.
func argsOf(op int) int {
	switch {
	case op == api.Const, op == api.Var, op == api.Hole:
		return 0
	case op == api.Trail:
		return 1
	case op >= api.Add && op <= api.Cmp:
		return 2
	case op == api.Select:
		return 3
	}
	return -1
}

// isNode tells whether a node of a pattern is right but for the Widths of its Args.
func isNode(p []api.Node, at int, right bool) bool {
	x := p[at]
	if len(x.Args) != argsOf(x.Op) || !flagsFit(x.Op, x.Flags) || x.Width < 0 || x.Width > api.MaxWidth {
		return false
	}
	for _, a := range x.Args {
		if a < 0 || a >= at {
			return false
		}
	}
	switch x.Op {
	case api.Const:
		return x.Width == 0 || uint64(x.Imm) < 1<<x.Width
	case api.Var:
		return x.Width == 0 && x.Imm <= 1
	case api.Hole:
		return x.Width == 0 && x.Imm < api.MaxHoles
	case api.Trail:
		return right && x.Width == 0 && x.Imm == 0 && p[x.Args[0]].Op == api.Hole
	case api.Cmp:
		return x.Width == 1 && x.Imm <= api.Sge
	}
	return x.Imm == 0
}

func isCond(c api.Cond) bool {
	return c.Kind >= 0 && c.Kind <= 4 && c.Hole >= 0 && c.Hole < api.MaxHoles && (c.Kind == 4 || c.Imm == 0)
}

func widthsFit(p []api.Node, x api.Node) bool {
	var w [3]int
	for i, a := range x.Args {
		w[i] = p[a].Width
	}
	switch {
	case x.Op == api.Cmp:
		return w[0] == w[1]
	case x.Op == api.Select:
		return w[0] == 1 && w[1] == x.Width && w[2] == x.Width
	case len(x.Args) == 2:
		return w[0] == x.Width && w[1] == x.Width
	}
	return true
}

func nodesFit(p []api.Node, right bool) bool {
	for i := range p {
		if !isNode(p, i, right) {
			return false
		}
	}
	return true
}

func allWidthsFit(p []api.Node) bool {
	return !slices.ContainsFunc(p, func(x api.Node) bool { return !widthsFit(p, x) })
}

// has tells whether a node with an operation and an Imm leads to the root of a shared side.
func has(shared []api.Node, op int, imm uint32) bool {
	return slices.ContainsFunc(shared, func(x api.Node) bool { return x.Op == op && x.Imm == imm })
}

// isBound tells whether what the right side and the preconditions name is in the left side.
func isBound(r api.Rule) bool {
	left := pool.Share(r.Left, len(r.Left)-1)
	for _, x := range r.Right {
		if (x.Op == api.Var || x.Op == api.Hole) && !has(left, x.Op, x.Imm) {
			return false
		}
	}
	return !slices.ContainsFunc(r.Pre, func(c api.Cond) bool { return !has(left, api.Hole, uint32(c.Hole)) })
}

// Validate returns what is wrong with a rule.
func Validate(r api.Rule) api.Errno {
	for _, p := range [][]api.Node{r.Left, r.Right} {
		if len(p) < 1 || len(p) > api.MaxPattern {
			return api.ErrLarge
		}
	}
	if len(r.Pre) > mostConds {
		return api.ErrLarge
	}
	if !nodesFit(r.Left, false) || !nodesFit(r.Right, true) {
		return api.ErrArg
	}
	if slices.ContainsFunc(r.Pre, func(c api.Cond) bool { return !isCond(c) }) {
		return api.ErrArg
	}
	root, other := r.Left[len(r.Left)-1].Width, r.Right[len(r.Right)-1].Width
	if !allWidthsFit(r.Left) || !allWidthsFit(r.Right) || root != other || root > 1 {
		return api.ErrType
	}
	if !isBound(r) {
		return api.ErrRule
	}
	return api.OK
}
