package seek

import (
	"slices"

	"backstay/api"
	"backstay/pool"
	"backstay/rule"
	"backstay/term"
)

// nodes returns a list whose last node is the result of a row; all nodes have one Width (0: that of a rule).
func nodes(k, w int, all uint32, row []api.Step) []api.Node {
	var l []api.Node
	for v := k - 1; v >= 0; v-- {
		l = append(l, api.Node{Op: api.Var, Width: w, Imm: uint32(v)})
	}
	if len(row) == 0 {
		return l
	}
	places := []int{k - 1, 0}[:k]
	for _, n := range []uint32{1, all} {
		places = append(places, len(l))
		l = append(l, api.Node{Op: api.Const, Width: w, Imm: n})
	}
	for _, s := range row {
		places = append(places, len(l))
		l = append(l, api.Node{Op: s.Op, Width: w, Args: []int{places[s.A], places[s.B]}})
	}
	return l
}

// Term returns a term with the meaning of a row.
func Term(k, w int, row []api.Step) ([]api.Node, api.Errno) {
	if e := Validate(k, w, row); e != api.OK {
		return nil, e
	}
	return nodes(k, w, 1<<w-1, row), api.OK
}

// checkTerm returns the errors of a term over k inputs.
func checkTerm(t []api.Node, k, w int) api.Errno {
	widths, e := term.Widths(t)
	if e != api.OK {
		return e
	}
	if !areSizes(k, w) {
		return api.ErrArg
	}
	if t[len(t)-1].Width != w || slices.ContainsFunc(widths, func(n int) bool { return n != 0 && n != w }) {
		return api.ErrType
	}
	for v, n := range widths {
		if n != 0 && v >= k {
			return api.ErrRule
		}
	}
	return api.OK
}

// meaningOf is for terms without errors.
func meaningOf(t []api.Node, k, w int) []uint32 {
	l := make([]uint32, sizeOf(k, w))
	for at := range l {
		given := inputs(k, w, at)
		env := make([]uint32, api.MaxVars)
		copy(env, given[:])
		l[at], _ = term.Eval(t, env)
	}
	return l
}

// MeaningOf returns the values of a term for all inputs.
func MeaningOf(t []api.Node, k, w int) ([]uint32, api.Errno) {
	if e := checkTerm(t, k, w); e != api.OK {
		return nil, e
	}
	return meaningOf(t, k, w), api.OK
}

// Constant returns the smallest word for Var 1 with which a term has a meaning over Var 0.
func Constant(t []api.Node, w int, table []uint32) (uint32, bool, api.Errno) {
	if e := checkTerm(t, 2, w); e != api.OK {
		return 0, false, e
	}
	if e := checkTable(1, w, table); e != api.OK {
		return 0, false, e
	}
	l := meaningOf(t, 2, w)
	for c := range 1 << w {
		is := true
		for x, n := range table {
			is = is && l[x<<w+c] == n
		}
		if is {
			return uint32(c), true, api.OK
		}
	}
	return 0, false, api.OK
}

// inputsOf returns how many inputs a pattern has.
func inputsOf(p []api.Node) int {
	if slices.ContainsFunc(p, func(x api.Node) bool { return x.Op == api.Var && x.Imm == 1 }) {
		return 2
	}
	return 1
}

// checkPattern returns the errors of a pattern for which a row is looked for.
func checkPattern(p []api.Node) api.Errno {
	if e := rule.Validate(api.Rule{Left: p, Right: p}); e != api.OK {
		return e
	}
	for _, x := range p {
		if x.Width != 0 || x.Flags != 0 || x.Op == api.Hole || x.Op == api.Trail {
			return api.ErrRule
		}
	}
	shared := pool.Share(p, len(p)-1)
	for v := range inputsOf(p) {
		if !slices.ContainsFunc(shared, func(x api.Node) bool { return x.Op == api.Var && int(x.Imm) == v }) {
			return api.ErrRule
		}
	}
	return api.OK
}

// steps counts the nodes of a pattern that a row must have fewer steps than.
func steps(p []api.Node) int {
	n := 0
	for _, x := range pool.Share(p, len(p)-1) {
		if x.Op != api.Const && x.Op != api.Var {
			n++
		}
	}
	return n
}

// Find looks for a row with the meaning of a pattern at all widths, and fewer steps.
func Find(p []api.Node) (api.Rule, bool, api.Errno) {
	if e := checkPattern(p); e != api.OK {
		return api.Rule{}, false, e
	}
	k := inputsOf(p)
	var meanings [api.MaxSeek][]uint32
	for i := range meanings {
		side, _, _ := rule.Sides(api.Rule{Left: p, Right: p}, i+1, make([]uint32, api.MaxHoles))
		meanings[i] = meaningOf(side, k, i+1)
	}
	row, is := first(k, steps(p), func(row []api.Step) bool {
		for i, meaning := range slices.Backward(meanings[:]) {
			if !newProgram(k, i+1, row).means(meaning) {
				return false
			}
		}
		return true
	})
	if !is {
		return api.Rule{}, false, api.OK
	}
	right := nodes(k, 0, 1<<32-1, row)
	return api.Rule{Left: copyOf(p), Right: pool.Share(right, len(right)-1)}, true, api.OK
}

func copyOf(p []api.Node) []api.Node {
	l := slices.Clone(p)
	for i := range l {
		l[i].Args = slices.Clone(l[i].Args)
	}
	return l
}
