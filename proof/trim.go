package proof

import "backstay/api"

// trimming is a proof from which clauses are left out. The clause i of the proof has the number len(c) + i among all.
type trimming struct {
	n    int
	c, l [][]int
	gone []bool
	used []map[int]bool // by which clauses each clause of the proof follows
}

// add adds the clause i to what is known.
func (t *trimming) add(p *propagation, i int) {
	clause := t.l[i]
	if t.gone[i] {
		clause = []int{1, -1} // it keeps its number, and says nothing
	}
	p.add(clause)
	p.settle()
}

// isUsed tells whether a clause that is left follows by the clause i.
func (t *trimming) isUsed(k, i int) bool {
	return !t.gone[k] && t.used[k][len(t.c)+i]
}

// without tells by which clauses those behind the clause i follow that used it, if all do; the clause i is gone.
func (t *trimming) without(i int) (map[int]map[int]bool, bool) {
	last := i
	for k := i + 1; k < len(t.l); k++ {
		if t.isUsed(k, i) {
			last = k
		}
	}
	fresh := map[int]map[int]bool{}
	if last == i {
		return fresh, true
	}
	p := newPropagation(t.n)
	for _, clause := range t.c {
		p.add(clause)
	}
	p.settle()
	for k := range last + 1 {
		if k > i && t.isUsed(k, i) {
			if !p.follows(t.l[k]) {
				return nil, false
			}
			fresh[k] = p.used()
			p.undo()
		}
		t.add(p, k)
	}
	return fresh, true
}

// drop leaves the clause i out if what is left is still a proof.
func (t *trimming) drop(i int) {
	t.gone[i] = true
	fresh, is := t.without(i)
	t.gone[i] = is
	for k, used := range fresh {
		t.used[k] = used
	}
}

// Trim leaves clauses out of a proof, from the last but one to the first one.
func Trim(n int, c [][]int, l [][]int) ([][]int, api.Errno) {
	if e := validateBoth(n, c, l); e != api.OK {
		return nil, e
	}
	t := trimming{n: n, c: c, l: l, gone: make([]bool, len(l))}
	p := newPropagation(n)
	for _, clause := range c {
		p.add(clause)
	}
	if _, is := check(p, l, func(int) { t.used = append(t.used, p.used()) }); !is {
		return nil, api.ErrProof
	}
	for i := len(l) - 2; i >= 0; i-- {
		t.drop(i)
	}
	var left [][]int
	for i, clause := range l {
		if !t.gone[i] {
			left = append(left, append([]int{}, clause...))
		}
	}
	return left, api.OK
}
