package sat

import (
	"slices"

	"backstay/api"
)

// How a search ends.
const (
	found = iota
	refuted
	given // up
)

// none stands for no clause.
const none = -1

// patience is how many conflicts there are at first from one restart to the next one.
const patience = 20

// search looks for a model, and learns a clause from each conflict. A literal l has the place place(l) in lists.
type search struct {
	n       int
	clauses [][]int
	watches [][]int // the clauses in which a literal is watched
	values  []int8  // of literals: 1 true, -1 false, 0 neither
	levels  []int
	reasons []int
	trail   []int
	limits  []int // where each level begins in the trail
	at      int   // what of the trail is propagated
	saved   []bool
	order   order
	proof   [][]int
	failed  bool
	seen    []bool
}

// place puts the literals of the variable v at 2*v and 2*v + 1.
func place(l int) int {
	if l < 0 {
		return -2*l + 1
	}
	return 2 * l
}

func variable(l int) int {
	return max(l, -l)
}

func newSearch(n int) *search {
	s := &search{n: n, watches: make([][]int, 2*n+2), values: make([]int8, 2*n+2)}
	s.levels = make([]int, n+1)
	s.reasons = make([]int, n+1)
	s.saved = make([]bool, n+1)
	s.seen = make([]bool, n+1)
	s.order = newOrder(n)
	return s
}

// start adds a clause that is given.
func (s *search) start(clause []int) {
	l := tidy(clause)
	if hasBoth(l) {
		return
	}
	switch len(l) {
	case 0:
		s.failed = true
	case 1:
		s.failed = s.failed || s.values[place(l[0])] < 0
		if s.values[place(l[0])] == 0 {
			s.set(l[0], none)
		}
	default:
		s.attach(l)
	}
}

// attach adds a clause, the first two literals of which are watched.
func (s *search) attach(clause []int) int {
	id := len(s.clauses)
	s.clauses = append(s.clauses, clause)
	for _, l := range clause[:2:2] {
		s.watches[place(l)] = append(s.watches[place(l)], id)
	}
	return id
}

func (s *search) set(l, reason int) {
	s.values[place(l)] = 1
	s.values[place(-l)] = -1
	v := variable(l)
	s.levels[v] = len(s.limits)
	s.reasons[v] = reason
	s.trail = append(s.trail, l)
}

// propagate sets what must be true, and returns a clause that is false, or none.
func (s *search) propagate() int {
	for s.at < len(s.trail) {
		l := s.trail[s.at]
		s.at++
		if id := s.visit(-l); id != none {
			return id
		}
	}
	return none
}

// visit looks at the clauses in which a literal is watched that has become false.
func (s *search) visit(l int) int {
	old := s.watches[place(l)]
	kept := old[:0:len(old)]
clauses:
	for i, id := range old {
		clause := s.clauses[id]
		if clause[0] == l {
			clause[0], clause[1] = clause[1], clause[0]
		}
		if s.values[place(clause[0])] > 0 {
			kept = append(kept, id)
			continue clauses
		}
		for k := 2; k < len(clause); k++ {
			if s.values[place(clause[k])] >= 0 {
				clause[1], clause[k] = clause[k], clause[1]
				s.watches[place(clause[1])] = append(s.watches[place(clause[1])], id)
				continue clauses
			}
		}
		kept = append(kept, id)
		if s.values[place(clause[0])] < 0 {
			kept = append(kept, old[i+1:]...)
			s.watches[place(l)] = kept
			return id
		}
		s.set(clause[0], id)
	}
	s.watches[place(l)] = kept
	return none
}

// back takes back all levels above one.
func (s *search) back(level int) {
	if len(s.limits) <= level {
		return
	}
	for _, l := range s.trail[s.limits[level]:] {
		s.values[place(l)], s.values[place(-l)] = 0, 0
		s.saved[variable(l)] = l > 0
		s.order.insert(variable(l))
	}
	s.trail = s.trail[:s.limits[level]]
	s.limits = s.limits[:level]
	s.at = len(s.trail)
}

// decide takes a literal as true, and tells whether there was one left.
func (s *search) decide() bool {
	for {
		v := s.order.next()
		if v == 0 {
			return false
		}
		if s.values[place(v)] != 0 {
			continue
		}
		s.limits = append(s.limits, len(s.trail))
		if s.saved[v] {
			s.set(v, none)
		} else {
			s.set(-v, none)
		}
		return true
	}
}

// luby is the sequence 1 1 2 1 1 2 4 and so on, from the number 1 on.
func luby(i int) int {
	size := 1
	for size < i+1 {
		size *= 2
	}
	if size == i+1 {
		return size / 2
	}
	return luby(i - size/2 + 1)
}

// run searches until there is a model or a proof, or too many clauses are learned.
func (s *search) run() int {
	if s.failed {
		return refuted
	}
	result, conflicts, restarts := given, 0, 1
search:
	for {
		id := s.propagate()
		switch {
		case id != none && len(s.limits) == 0:
			result = refuted
			break search
		case id != none && len(s.proof) == api.MaxLearn:
			break search
		case id != none:
			conflicts++
			s.learn(id)
		case conflicts >= patience*luby(restarts):
			conflicts = 0
			restarts++
			s.back(0)
		case !s.decide():
			result = found
			break search
		}
	}
	return result
}

func (s *search) model() []bool {
	model := make([]bool, s.n)
	for v := range model {
		model[v] = s.values[place(v+1)] > 0
	}
	return model
}

// learn makes a clause of a false one, goes back to where it would have forced a literal, and lets it.
func (s *search) learn(id int) {
	clause := s.analyze(id)
	s.proof = append(s.proof, slices.Clone(clause))
	if len(clause) == 1 {
		s.back(0)
		s.set(clause[0], none)
		return
	}
	s.back(s.levels[variable(clause[1])])
	id = s.attach(clause)
	s.set(clause[0], id)
}
