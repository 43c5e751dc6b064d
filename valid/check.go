package valid

import (
	"slices"

	"backstay/api"
	"backstay/blast"
	"backstay/claim"
	"backstay/pool"
)

// step is a tie that is checked: both blocks are executed, and what is claimed of them follows from the pairs.
type step struct {
	*claim.Builder
	s, t  *side
	l     []api.Tie
	tie   api.Tie
	known map[[2]int]bool // whether two values are related without a proof
}

func newStep(p, q *program, l []api.Tie, k int) *step {
	b := claim.New()
	x := &step{Builder: b, s: newSide(b, p, l[k].S, 1), t: newSide(b, q, l[k].T, 2), l: l, tie: l[k], known: map[[2]int]bool{}}
	x.s.execute()
	x.t.execute()
	return x
}

// isComputed tells whether a value is computed in the block of a side.
func (s *side) isComputed(v int) bool {
	return s.p.blocks[v] == s.block && s.p.all[v].Op != api.Phi
}

// related tells whether v is plainly poison or equal to u: by a pair, or as equal operations over related values. What it does not see may still be proved.
func (x *step) related(v, u int) bool {
	key := [2]int{v, u}
	is, asked := x.known[key]
	if !asked {
		is = x.isRelated(v, u)
		x.known[key] = is
	}
	return is
}

func (x *step) isRelated(v, u int) bool {
	p, q := x.s.p, x.t.p
	if p.isParam(v) && q.isParam(u) && v == u || slices.Contains(x.tie.Pairs, [2]int{v, u}) {
		return true
	}
	if !x.s.isComputed(v) {
		return false
	}
	a, b := p.all[v], q.all[u]
	if a.Op == api.Poison {
		return a.Width == q.kinds[u]
	}
	if !x.t.isComputed(u) || b.Flags&^a.Flags != 0 {
		return false
	}
	return x.isAlike(a, b)
}

// isAlike tells whether two instructions do the same to related values.
func (x *step) isAlike(a, b api.Inst) bool {
	if a.Op != b.Op || a.Width != b.Width || a.Imm != b.Imm || len(a.Args) != len(b.Args) {
		return false
	}
	for i := range a.Args {
		if !x.related(a.Args[i], b.Args[i]) {
			return false
		}
	}
	return true
}

// goesAlike tells whether both blocks end with a Branch by related values.
func (x *step) goesAlike() bool {
	a, b := x.s.last(), x.t.last()
	return a.Op == api.Branch && b.Op == api.Branch && x.related(a.Args[0], b.Args[0])
}

func (s *side) last() api.Inst {
	block := s.p.f.Blocks[s.block]
	return block[len(block)-1]
}

func divides(op int) bool {
	return op >= api.UDiv && op <= api.SRem
}

// isDefined tells whether t is defined where s is.
func (x *step) isDefined() bool {
	plain := x.t.last().Op != api.Branch || x.goesAlike()
	for _, b := range x.t.p.f.Blocks[x.t.block] {
		if divides(b.Op) && !slices.ContainsFunc(x.s.p.f.Blocks[x.s.block], func(a api.Inst) bool { return x.isAlike(a, b) }) {
			plain = false
		}
	}
	return plain || x.proves(x.s.defined, x.t.defined)
}

// holds says that the first one of two symbols is poison, or the second one equal to it.
func (x *step) holds(a, b symbol) int {
	equal := x.Compare(api.Eq, a.word, b.word)
	return x.Some(a.poison, x.All(x.Not(b.poison), equal))
}

// ends tells whether t ends as s does, if one of them ends.
func (x *step) ends() bool {
	a, b := x.s.last(), x.t.last()
	if a.Op != b.Op {
		return x.proves(x.s.defined, x.Constant(1, 0))
	}
	if len(a.Args) == 0 || x.related(a.Args[0], b.Args[0]) {
		return true
	}
	return x.proves(x.s.defined, x.holds(x.s.ret, x.t.ret))
}

// pair is the number of a tie and of a pair of it.
type pair struct {
	tie, number int
}

// goes tells which pairs do not hold where both blocks are left by two edges, and whether there is a tie there.
func (x *step) goes(s, t edge) ([]pair, bool) {
	guard := x.All(x.s.defined, s.when, t.when)
	k := find(x.l, s.to, t.to)
	if k < 0 {
		return nil, x.proves(guard, x.Constant(1, 0))
	}
	var wrong []pair
	for i, names := range x.l[k].Pairs {
		v, u := x.s.incoming(names[0], s.to), x.t.incoming(names[1], t.to)
		if x.related(v, u) {
			continue
		}
		a := x.s.symbol(v)
		b := x.t.symbol(u)
		if !x.proves(guard, x.holds(a, b)) {
			wrong = append(wrong, pair{k, i})
		}
	}
	return wrong, true
}

// run tells which pairs do not hold behind the blocks, and whether all else does.
func (x *step) run() ([]pair, bool) {
	if !x.isDefined() {
		return nil, false
	}
	if len(x.s.to) == 0 || len(x.t.to) == 0 {
		return nil, x.ends()
	}
	alike := x.goesAlike()
	var wrong []pair
	for i, s := range x.s.to {
		for k, t := range x.t.to {
			if alike && i != k {
				continue
			}
			l, is := x.goes(s, t)
			if !is {
				return nil, false
			}
			wrong = append(wrong, l...)
		}
	}
	return wrong, true
}

// proves tells whether a conclusion follows from the pairs where a guard is 1.
func (x *step) proves(guard, conclusion int) bool {
	root := x.Some(x.Not(guard), conclusion)
	if x.Is(root, 1) {
		return true
	}
	root = x.Some(x.Not(x.assumption(root)), root)
	t, is := pack(pool.Share(x.Nodes(), root))
	if !is {
		return false
	}
	_, is, e := blast.Prove(t)
	return is && e == api.OK
}

// assumption is what the pairs say that matters for a claim.
func (x *step) assumption(root int) int {
	used := map[uint32]bool{}
	for _, n := range pool.Share(x.Nodes(), root) {
		if n.Op == api.Var {
			used[n.Imm] = true
		}
	}
	isUsed := func(s *side, v int) bool {
		return s.p.isParam(v) || used[uint32(s.first+v)] || used[uint32(s.first+poisons+v)]
	}
	left := slices.Clone(x.tie.Pairs)
	degree := func(side, v int) int {
		n := 0
		for _, names := range left {
			if names[side] == v {
				n++
			}
		}
		return n
	}
	// A pair says nothing if one of its values is not used and in no other pair: there always is one that fits.
	for again := true; again; {
		count := len(left)
		left = slices.DeleteFunc(slices.Clone(left), func(names [2]int) bool {
			return !isUsed(x.s, names[0]) && degree(0, names[0]) == 1 || !isUsed(x.t, names[1]) && degree(1, names[1]) == 1
		})
		again = len(left) < count
	}
	sum := x.Constant(1, 1)
	for _, names := range left {
		a := x.s.symbol(names[0])
		b := x.t.symbol(names[1])
		sum = x.All(sum, x.holds(a, b))
	}
	return sum
}

// check tells pairs of a relation that do not hold behind a tie, and whether all hold and all else does.
func check(p, q *program, l []api.Tie) ([]pair, bool) {
	k := find(l, 0, 0)
	if k < 0 || slices.ContainsFunc(l[k].Pairs, func(names [2]int) bool { return names[0] != names[1] || !p.isParam(names[0]) }) {
		return nil, false
	}
	for k := range l {
		wrong, is := newStep(p, q, l, k).run()
		if !is || len(wrong) > 0 {
			return wrong, false
		}
	}
	return nil, true
}
