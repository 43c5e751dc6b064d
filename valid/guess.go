package valid

import (
	"slices"

	"backstay/api"
)

// The limits of what is guessed.
const (
	mostTies   = 40
	mostPairs  = 60
	mostRounds = 200
)

// Guess looks for a relation that is checked.
func Guess(f, g api.Func) ([]api.Tie, bool, api.Errno) {
	if e := Validate(f, g, nil); e != api.OK {
		return nil, false, e
	}
	p, q := newProgram(f), newProgram(g)
	first := self(p)
	if Validate(f, g, first) == api.OK {
		if _, is := check(p, q, first); is {
			return first, true, api.OK
		}
	}
	l := begin(p, q)
	for range mostRounds {
		wrong, is := check(p, q, l)
		if is {
			return l, true, api.OK
		}
		if len(wrong) == 0 {
			break
		}
		for _, x := range slices.Backward(wrong) {
			l = without(l, x.tie, x.number)
		}
	}
	return nil, false, api.OK
}

// begin ties blocks that are entered together if both functions go the same ways, with all pairs that may hold.
func begin(p, q *program) []api.Tie {
	l := []api.Tie{{}}
	for k := 0; k < len(l) && k < mostTies; k++ {
		tie := &l[k]
		tie.Pairs = candidates(p, q, tie.S, tie.T)
		for _, next := range together(p.graph[tie.S], q.graph[tie.T]) {
			if find(l, next[0], next[1]) < 0 {
				l = append(l, api.Tie{S: next[0], T: next[1]})
			}
		}
	}
	return l
}

// together pairs the successors of two blocks: in their order if there are equally many.
func together(s, t []int) [][2]int {
	var l [][2]int
	for i, a := range s {
		for k, b := range t {
			if len(s) != len(t) || i == k {
				l = append(l, [2]int{a, b})
			}
		}
	}
	return l
}

// candidates are the parameters, and values that come about in the same way.
func candidates(p, q *program, s, t int) [][2]int {
	var l [][2]int
	for v := range p.all {
		for u := range q.all {
			if len(l) == mostPairs || p.kinds[v] == 0 || p.kinds[v] != q.kinds[u] || !p.isAt(v, s) || !q.isAt(u, t) {
				continue
			}
			a, b := p.all[v], q.all[u]
			switch {
			case p.isParam(v) != q.isParam(u):
			case p.isParam(v) && v == u:
				l = append(l, [2]int{v, u})
			case !p.isParam(v) && a.Op == b.Op && a.Imm == b.Imm:
				l = append(l, [2]int{v, u})
			}
		}
	}
	return slices.Clip(l)
}
