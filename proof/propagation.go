package proof

import "slices"

// none stands for no clause.
const none = -1

// propagation propagates units through clauses. What follows from the clauses alone stays; what follows from literals that are given is undone.
type propagation struct {
	truth   facts
	clauses [][]int
	watches [][]int // the clauses in which a literal is watched
	reasons map[int]int
	trail   []int
	at      int // what of the trail is propagated
	stays   int // what of the trail stays
	failed  bool
	wrong   int   // a clause that is false, or none
	clash   []int // literals that are true, and given as false
}

// place puts the literals of the variable v at 2*v and 2*v + 1.
func place(l int) int {
	if l < 0 {
		return -2*l + 1
	}
	return 2 * l
}

func newPropagation(n int) *propagation {
	return &propagation{truth: facts{}, watches: make([][]int, 2*n+2), reasons: map[int]int{}, wrong: none}
}

func isTautology(clause []int) bool {
	return slices.ContainsFunc(clause, func(l int) bool {
		_, is := slices.BinarySearch(clause, -l)
		return is
	})
}

// add adds a clause while nothing is given; literals that are not false come first.
func (p *propagation) add(clause []int) {
	l := slices.Compact(slices.Sorted(slices.Values(clause)))
	tautology := isTautology(l)
	slices.SortStableFunc(l, func(a, b int) int { return p.rank(a) - p.rank(b) })
	id := len(p.clauses)
	p.clauses = append(p.clauses, l)
	switch {
	case tautology || p.failed:
	case len(l) == 0 || p.truth[-l[0]]:
		p.fail(id)
	case len(l) == 1 || p.truth[-l[1]]:
		if !p.truth[l[0]] {
			p.set(l[0], id)
		}
	default:
		p.watches[place(l[0])] = append(p.watches[place(l[0])], id)
		p.watches[place(l[1])] = append(p.watches[place(l[1])], id)
	}
}

func (p *propagation) rank(l int) int {
	switch {
	case p.truth[l]:
		return 0
	case p.truth[-l]:
		return 2
	}
	return 1
}

func (p *propagation) fail(id int) {
	p.failed = true
	p.wrong = id
}

func (p *propagation) set(l, reason int) {
	p.truth[l] = true
	p.reasons[l] = reason
	p.trail = append(p.trail, l)
}

// settle propagates what follows from the clauses alone.
func (p *propagation) settle() {
	if p.failed {
		return
	}
	if id := p.propagate(); id != none {
		p.fail(id)
		return
	}
	p.stays = len(p.trail)
}

// propagate returns a clause that is false, or none.
func (p *propagation) propagate() int {
	for p.at < len(p.trail) {
		l := p.trail[p.at]
		p.at++
		if id := p.visit(-l); id != none {
			return id
		}
	}
	return none
}

// visit looks at the clauses in which a literal is watched that has become false.
func (p *propagation) visit(l int) int {
	old := p.watches[place(l)]
	var kept []int
	for i, id := range old {
		clause := p.clauses[id]
		if clause[0] == l {
			clause[0], clause[1] = clause[1], clause[0]
		}
		if !p.truth[clause[0]] && p.move(id) {
			continue
		}
		kept = append(kept, id)
		if p.truth[-clause[0]] {
			p.watches[place(l)] = append(kept, old[i+1:]...)
			return id
		}
		if !p.truth[clause[0]] {
			p.set(clause[0], id)
		}
	}
	p.watches[place(l)] = kept
	return none
}

// move watches another literal of a clause in place of the second one, if there is one that is not false.
func (p *propagation) move(id int) bool {
	clause := p.clauses[id]
	for k := 2; k < len(clause); k++ {
		if !p.truth[-clause[k]] {
			clause[1], clause[k] = clause[k], clause[1]
			p.watches[place(clause[1])] = append(p.watches[place(clause[1])], id)
			return true
		}
	}
	return false
}

// conflicts takes literals as true, and tells whether there is a conflict.
func (p *propagation) conflicts(given []int) bool {
	for _, l := range given {
		if p.truth[-l] {
			p.clash = []int{-l}
			return true
		}
		if !p.truth[l] {
			p.set(l, none)
		}
	}
	p.wrong = p.propagate()
	return p.wrong != none
}

// follows tells whether a clause follows by propagation; undo must come next.
func (p *propagation) follows(clause []int) bool {
	if p.failed {
		return true
	}
	var given []int
	for _, l := range clause {
		given = append(given, -l)
	}
	return p.conflicts(given)
}

// undo takes back what does not stay.
func (p *propagation) undo() {
	if p.failed {
		return
	}
	for _, l := range p.trail[p.stays:] {
		delete(p.truth, l)
		delete(p.reasons, l)
	}
	p.trail = p.trail[:p.stays]
	p.at = p.stays
	p.wrong = none
	p.clash = nil
}

// used returns the clauses by which the conflict came about.
func (p *propagation) used() map[int]bool {
	ids := map[int]bool{}
	seen := facts{}
	work := slices.Clone(p.clash)
	take := func(id int) {
		ids[id] = true
		for _, l := range p.clauses[id] {
			work = append(work, l, -l)
		}
	}
	if p.wrong != none {
		take(p.wrong)
	}
	for len(work) > 0 {
		l := work[len(work)-1]
		work = work[:len(work)-1]
		id, is := p.reasons[l]
		if is && id != none && !seen[l] {
			seen[l] = true
			take(id)
		}
	}
	return ids
}
