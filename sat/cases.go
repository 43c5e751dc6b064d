package sat

import "slices"

// mostTried is a number of variables for which all cases are few enough to be learned.
const mostTried = 10

// trial goes through the cases of a few variables, one variable after another.
type trial struct {
	n      int
	cases  []int
	masks  [][2]int
	proof  [][]int
	is     bool
	values int
}

// tryAll returns a model, or a proof: for each case that has no model, the negation of the case.
func tryAll(n int, c [][]int) ([]bool, [][]int, bool) {
	t := &trial{n: n}
	for _, clause := range c {
		t.masks = append(t.masks, masks(clause))
	}
	t.split()
	if !t.is {
		return nil, t.proof, false
	}
	model := make([]bool, n)
	for v := range model {
		model[v] = t.values>>v&1 == 1
	}
	return model, nil, true
}

// split looks for a model of the case; without one it adds the negation of the case to the proof.
func (t *trial) split() {
	if len(t.cases) < t.n {
		for _, l := range [2]int{len(t.cases) + 1, -len(t.cases) - 1} {
			t.cases = append(t.cases, l)
			t.split()
			if t.is {
				return
			}
			t.cases = t.cases[:len(t.cases)-1]
		}
	} else {
		values := masks(t.cases)[0]
		t.is = !slices.ContainsFunc(t.masks, func(m [2]int) bool { return values&m[0] == 0 && ^values&m[1] == 0 })
		t.values = values
	}
	if !t.is {
		negation := []int{}
		for _, l := range t.cases {
			negation = append(negation, -l)
		}
		t.proof = append(t.proof, negation)
	}
}
