package egraph

import (
	"slices"

	"backstay/api"
	"backstay/bits"
	"backstay/pool"
	"backstay/rule"
)

// mostWays is how many different ways a round may have.
const mostWays = 2000

// bindings are pairs of what Var 0 and Var 1 are bound to: the bit b of the row a stands for the pair (a, b). A Var that is not bound yet may be anything.
type bindings [api.MaxClass]uint64

func (p *bindings) and(q *bindings) {
	for i := range p {
		p[i] &= q[i]
	}
}

func (p *bindings) or(q *bindings) {
	for i := range p {
		p[i] |= q[i]
	}
}

// everything has all pairs.
func everything() bindings {
	var p bindings
	for i := range p {
		p[i] = 1<<64 - 1
	}
	return p
}

// bound has all pairs in which a Var is bound to one class.
func bound(v uint32, class int) bindings {
	var p bindings
	if v == 0 {
		p[class] = 1<<64 - 1
		return p
	}
	for i := range p {
		p[i] = 1 << class
	}
	return p
}

// way is a rule, its width, the class in which its left side is found, and the classes of its Vars.
type way struct {
	rule  api.Rule
	width int
	class int
	vars  [2]int
}

// finder finds left sides in a graph as it is.
type finder struct {
	g       *Graph
	classes []int
	places  map[int]int // of a class in classes
	inside  [][]member  // the members of each class
}

func newFinder(g *Graph) *finder {
	f := &finder{g: g, classes: g.classes(), places: map[int]int{}}
	for i, c := range f.classes {
		f.places[c] = i
	}
	f.inside = make([][]member, len(f.classes))
	for _, m := range g.members {
		i := f.places[g.find(m.class)]
		f.inside[i] = append(f.inside[i], m)
	}
	return f
}

// at returns a node of a pattern at a width.
func at(x api.Node, w int) api.Node {
	if x.Width == 0 {
		x.Width = w
	}
	if x.Op == api.Const {
		all, _ := bits.Mask(x.Width)
		x.Imm &= all
	}
	return x
}

// meet returns the bindings with which a node of a pattern is found in each class, where those of its Args are known.
func (f *finder) meet(x api.Node, known [][]bindings) []bindings {
	found := make([]bindings, len(f.classes))
	for i, c := range f.classes {
		if f.g.widths[c] != x.Width {
			continue
		}
		if x.Op == api.Var {
			found[i] = bound(x.Imm, i)
			continue
		}
		for _, m := range f.inside[i] {
			if m.op != x.Op || m.imm != x.Imm || m.width != x.Width {
				continue
			}
			pairs := everything()
			for k, a := range x.Args {
				pairs.and(&known[a][f.places[m.args[k]]])
			}
			found[i].or(&pairs)
		}
	}
	return found
}

// has tells whether a Var is in a shared pattern.
func has(p []api.Node, v uint32) bool {
	return slices.ContainsFunc(p, func(x api.Node) bool { return x.Op == api.Var && x.Imm == v })
}

// ways returns all ways of a rule at a width.
func (f *finder) ways(r api.Rule, w int) []way {
	left := pool.Share(r.Left, len(r.Left)-1)
	first, second := has(left, 0), has(left, 1)
	if left[len(left)-1].Width == 1 && !first && !second {
		return nil
	}
	var known [][]bindings
	for _, x := range left {
		found := f.meet(at(x, w), known)
		known = append(known, found)
	}
	var l []way
	for i, pairs := range known[len(known)-1] {
		for a := range f.classes {
			for b := range f.classes {
				// A Var that the rule does not have is told once.
				if pairs[a]>>b&1 == 1 && (first || a == 0) && (second || b == 0) {
					l = append(l, way{r, w, f.classes[i], [2]int{f.classes[a], f.classes[b]}})
				}
			}
		}
	}
	return l
}

// all returns all ways of all rules at all widths; it is false if there are too many.
func (f *finder) all(rules []api.Rule) ([]way, bool) {
	var widths []int
	for _, c := range f.classes {
		widths = append(widths, f.g.widths[c])
	}
	slices.Sort(widths)
	var l []way
	for _, r := range rules {
		for _, w := range slices.Compact(widths) {
			l = append(l, f.ways(r, w)...)
			if len(l) > mostWays {
				return nil, false
			}
		}
	}
	return l, true
}

// apply adds the right side of a way, and tells that it is equal to the class.
func (g *Graph) apply(x way) bool {
	right := pool.Share(x.rule.Right, len(x.rule.Right)-1)
	var places []int
	for _, n := range right {
		if n.Op == api.Var {
			places = append(places, x.vars[n.Imm])
			continue
		}
		var args []int
		for _, a := range n.Args {
			args = append(args, places[a])
		}
		class := g.put(at(n, x.width), args)
		places = append(places, class)
	}
	return g.join(places[len(places)-1], x.class)
}

// round does a round, and tells whether it found something new.
func (g *Graph) round(rules []api.Rule) (bool, api.Errno) {
	ways, is := newFinder(g).all(rules)
	if !is {
		return false, api.ErrLarge
	}
	before, joined := len(g.members), false
	for _, x := range ways {
		is := g.apply(x)
		joined = joined || is
	}
	fresh := joined || len(g.members) != before
	g.settle()
	if g.Classes() > api.MaxClass {
		return false, api.ErrLarge
	}
	return fresh, api.OK
}

// isPlain tells whether a rule has no Flags and no Holes.
func isPlain(r api.Rule) bool {
	return !slices.ContainsFunc(slices.Concat(r.Left, r.Right), func(x api.Node) bool {
		return x.Flags != 0 || x.Op == api.Hole || x.Op == api.Trail
	})
}

// Saturate applies rules in rounds, and tells whether there was nothing new in the end.
func (g *Graph) Saturate(rules []api.Rule, rounds int) (bool, api.Errno) {
	if g == nil {
		return false, api.ErrState
	}
	if len(rules) > api.MaxTable || rounds < 0 || rounds > api.MaxRounds {
		return false, api.ErrArg
	}
	for _, r := range rules {
		if e := rule.Validate(r); e != api.OK {
			return false, e
		}
	}
	for _, r := range rules {
		if !isPlain(r) {
			return false, api.ErrRule
		}
	}
	c := g.Copy()
	for range rounds {
		fresh, e := c.round(rules)
		if e != api.OK {
			return false, e
		}
		if !fresh {
			*g = *c
			return true, api.OK
		}
	}
	*g = *c
	return false, api.OK
}
