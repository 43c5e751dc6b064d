package proof

import "backstay/api"

// trimming is a proof from which clauses are left out. The clause i of the proof has the number len(c) + i among all.
type trimming struct {
	n    int
	c, l [][]int
	gone []bool
	used []map[int]bool // by which clauses each clause of the proof follows
}

// again tells by which clauses the clause i follows from those before it that are left.
func (t *trimming) again(i int) (map[int]bool, bool) {
	p := newPropagation(t.n)
	for _, clause := range t.c {
		p.add(clause)
	}
	for k, clause := range t.l[:i] {
		if t.gone[k] {
			clause = []int{1, -1} // it keeps its number, and says nothing
		}
		p.add(clause)
	}
	p.settle()
	if !p.follows(t.l[i]) {
		return nil, false
	}
	return p.used(), true
}

// drop leaves the clause i out if what is left is still a proof.
func (t *trimming) drop(i int) {
	t.gone[i] = true
	fresh := map[int]map[int]bool{}
	for k := i + 1; k < len(t.l); k++ {
		if t.gone[k] || !t.used[k][len(t.c)+i] {
			continue
		}
		used, is := t.again(k)
		if !is {
			t.gone[i] = false
			return
		}
		fresh[k] = used
	}
	for k, used := range fresh {
		t.used[k] = used
	}
}

// Trim leaves clauses out of a proof, from the last but one to the first one.
func Trim(n int, c [][]int, l [][]int) ([][]int, api.Errno) {
	if e := validateBoth(n, c, l); e != api.OK {
		return nil, e
	}
	t := trimming{n: n, c: c, l: l, gone: make([]bool, len(l))}
	p := newPropagation(n)
	for _, clause := range c {
		p.add(clause)
	}
	if _, is := check(p, l, func(int) { t.used = append(t.used, p.used()) }); !is {
		return nil, api.ErrProof
	}
	for i := len(l) - 2; i >= 0; i-- {
		t.drop(i)
	}
	var left [][]int
	for i, clause := range l {
		if !t.gone[i] {
			left = append(left, append([]int{}, clause...))
		}
	}
	return left, api.OK
}
