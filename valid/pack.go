package valid

import (
	"slices"

	"backstay/api"
	"backstay/pool"
)

// field is a part of a variable of a term that stands for an unknown.
type field struct {
	name         uint32
	width        int
	variable, at int
}

// fields finds room for unknowns in the variables of a term, and tells how many bits of each are used.
func fields(t []api.Node) ([]field, [api.MaxVars]int, bool) {
	var l []field
	for _, x := range t {
		if x.Op == api.Var {
			l = append(l, field{name: x.Imm, width: x.Width})
		}
	}
	slices.SortStableFunc(l, func(a, b field) int { return b.width - a.width })
	var sizes [api.MaxVars]int
	for i, f := range l {
		v := slices.IndexFunc(sizes[:], func(size int) bool { return size+f.width <= api.MaxWidth })
		if v < 0 {
			return nil, sizes, false
		}
		l[i].variable, l[i].at = v, sizes[v]
		sizes[v] += f.width
	}
	return l, sizes, true
}

// pack returns a term over real variables; it is false if there is not enough room.
func pack(t []api.Node) ([]api.Node, bool) {
	l, sizes, is := fields(t)
	if !is {
		return nil, false
	}
	p := pool.New()
	cut := func(f field) int {
		size := sizes[f.variable]
		k := p.Add(api.Node{Op: api.Var, Width: size, Imm: uint32(f.variable)})
		if f.at > 0 {
			by := p.Add(api.Node{Op: api.Const, Width: size, Imm: uint32(f.at)})
			k = p.Add(api.Node{Op: api.LShr, Width: size, Args: []int{k, by}})
		}
		if f.width < size {
			k = p.Add(api.Node{Op: api.Trunc, Width: f.width, Args: []int{k}})
		}
		return k
	}
	p.Take(t, len(t)-1, func(x api.Node) (int, bool) {
		if x.Op != api.Var {
			return 0, false
		}
		i := slices.IndexFunc(l, func(f field) bool { return f.name == x.Imm })
		return cut(l[i]), true
	})
	return p.Nodes(), len(p.Nodes()) <= api.MaxNodes
}
