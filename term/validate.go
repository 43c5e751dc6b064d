package term

import "backstay/api"

// Validate returns what is wrong with a term.
func Validate(t []api.Node) api.Errno {
	if len(t) < 1 || len(t) > api.MaxNodes {
		return api.ErrLarge
	}
	for i, x := range t {
		if !isNode(x, i) {
			return api.ErrArg
		}
	}
	for _, x := range t {
		if !widthsFit(t, x) {
			return api.ErrType
		}
	}
	var seen [api.MaxVars]int
	for _, x := range t {
		if x.Op != api.Var {
			continue
		}
		if seen[x.Imm] != 0 && seen[x.Imm] != x.Width {
			return api.ErrRule
		}
		seen[x.Imm] = x.Width
	}
	return api.OK
}

func isArithmetic(op int) bool {
	return op >= api.Add && op <= api.AShr
}

func isOp(op int) bool {
	return op >= api.Const && op <= api.Trunc || op == api.Var
}

// argsOf returns how many Args an operation has.
func argsOf(op int) int {
	switch {
	case isArithmetic(op), op == api.Cmp:
		return 2
	case op == api.Select:
		return 3
	case op == api.Const, op == api.Var:
		return 0
	}
	return 1
}

// isNode tells whether a node is right but for the Widths of its Args.
func isNode(x api.Node, at int) bool {
	if !isOp(x.Op) || x.Flags != 0 || x.Width < 1 || x.Width > api.MaxWidth || len(x.Args) != argsOf(x.Op) {
		return false
	}
	for _, a := range x.Args {
		if a < 0 || a >= at {
			return false
		}
	}
	switch x.Op {
	case api.Const:
		return uint64(x.Imm) < 1<<x.Width
	case api.Var:
		return x.Imm < api.MaxVars
	case api.Cmp:
		return x.Width == 1 && x.Imm <= api.Sge
	}
	return x.Imm == 0
}

func widthsFit(t []api.Node, x api.Node) bool {
	var w [3]int
	for i, a := range x.Args {
		w[i] = t[a].Width
	}
	switch {
	case isArithmetic(x.Op):
		return w[0] == x.Width && w[1] == x.Width
	case x.Op == api.Cmp:
		return w[0] == w[1]
	case x.Op == api.Select:
		return w[0] == 1 && w[1] == x.Width && w[2] == x.Width
	case x.Op == api.ZExt, x.Op == api.SExt:
		return w[0] < x.Width
	case x.Op == api.Trunc:
		return w[0] > x.Width
	}
	return true
}
