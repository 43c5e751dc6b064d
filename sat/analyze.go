package sat

// analyze resolves a false clause with the reasons of its literals until one literal of the last level is left. This one comes first, and one of the greatest level below it second.
func (s *search) analyze(id int) []int {
	clause := []int{0}
	open, at, last := 0, len(s.trail), 0
	for {
		for _, l := range s.clauses[id] {
			v := variable(l)
			if l == last || s.seen[v] || s.levels[v] == 0 {
				continue
			}
			s.seen[v] = true
			s.order.bump(v)
			if s.levels[v] == len(s.limits) {
				open++
			} else {
				clause = append(clause, l)
			}
		}
		at--
		for !s.seen[variable(s.trail[at])] {
			at--
		}
		last = s.trail[at]
		s.seen[variable(last)] = false
		open--
		if open == 0 {
			break
		}
		id = s.reasons[variable(last)]
	}
	clause[0] = -last
	s.order.decay()
	return s.shorten(clause)
}

// shorten leaves out literals that follow from the others, and brings one of the greatest level to the second place.
func (s *search) shorten(clause []int) []int {
	kept := []int{clause[0]}
	s.seen[variable(clause[0])] = true
	for _, l := range clause[1:] {
		if !s.follows(l) {
			kept = append(kept, l)
		}
	}
	for _, l := range clause {
		s.seen[variable(l)] = false
	}
	for i := 2; i < len(kept); i++ {
		if s.levels[variable(kept[i])] > s.levels[variable(kept[1])] {
			kept[1], kept[i] = kept[i], kept[1]
		}
	}
	return kept
}

// follows tells whether all other literals of the reason of a literal are in the clause that is made, or known.
func (s *search) follows(l int) bool {
	id := s.reasons[variable(l)]
	if id == none {
		return false
	}
	for _, other := range s.clauses[id] {
		v := variable(other)
		if other != -l && !s.seen[v] && s.levels[v] > 0 {
			return false
		}
	}
	return true
}
