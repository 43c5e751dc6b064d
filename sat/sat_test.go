package sat

import (
	"slices"
	"testing"

	"backstay/api"
)

// conflicts tells by its definition whether unit propagation from literals has a conflict.
func conflicts(c [][]int, given []int) bool {
	is := map[int]bool{}
	for _, l := range given {
		is[l] = true
	}
	for l := range is {
		if is[-l] {
			return true
		}
	}
	for changed := true; changed; {
		changed = false
		for _, clause := range c {
			left := map[int]bool{}
			satisfied := false
			for _, l := range clause {
				satisfied = satisfied || is[l]
				if !is[-l] {
					left[l] = true
				}
			}
			if satisfied || len(left) > 1 {
				continue
			}
			if len(left) == 0 {
				return true
			}
			for l := range left {
				is[l] = true
				changed = true
			}
		}
	}
	return false
}

func isProof(c, proof [][]int) bool {
	all := slices.Clone(c)
	for _, clause := range proof {
		var given []int
		for _, l := range clause {
			given = append(given, -l)
		}
		if !conflicts(all, given) {
			return false
		}
		all = append(all, clause)
	}
	return len(proof) > 0 && len(proof[len(proof)-1]) == 0
}

type random struct{ seed int }

func (r *random) next(n int) int {
	r.seed = r.seed*6364136223846793005 + 1442695040888963407
	return int(uint(r.seed)>>33) % n
}

// clauses makes m clauses of at most 3 literals over n variables.
func (r *random) clauses(n, m int) [][]int {
	var c [][]int
	for range m {
		var clause []int
		for range 3 - r.next(8)/7 {
			l := 1 + r.next(n)
			clause = append(clause, l*(1-2*r.next(2)))
		}
		c = append(c, clause)
	}
	return c
}

// holes says that n + 1 things are in n holes, no two in one.
func holes(n int) (int, [][]int) {
	in := func(thing, hole int) int { return thing*n + hole + 1 }
	var c [][]int
	for thing := range n + 1 {
		var clause []int
		for hole := range n {
			clause = append(clause, in(thing, hole))
			for other := range thing {
				c = append(c, []int{-in(thing, hole), -in(other, hole)})
			}
		}
		c = append(c, clause)
	}
	return n * (n + 1), c
}

// P8.1
func TestErrors(t *testing.T) {
	for i, x := range []struct {
		n int
		c [][]int
		e api.Errno
	}{
		{-1, [][]int{{9}}, api.ErrLarge},
		{4001, nil, api.ErrLarge},
		{4000, [][]int{{4000, -4000}}, api.OK},
		{0, nil, api.OK},
		{0, [][]int{nil}, api.OK},
		{2, [][]int{{3}}, api.ErrArg},
		{2, [][]int{{1}, {-3}}, api.ErrArg},
		{2, [][]int{{0}}, api.ErrArg},
		{2, [][]int{{-1 << 63}}, api.ErrArg},
		{2, slices.Repeat([][]int{{1}}, 24000), api.OK},
		{2, slices.Repeat([][]int{{9}}, 24001), api.ErrLarge},
	} {
		_, e1 := Holds(x.n, x.c, make([]bool, max(x.n, 0)))
		_, _, _, e2 := Solve(x.n, x.c)
		_, e3 := Clean(x.n, x.c)
		_, e4 := Pure(x.n, x.c)
		for _, e := range []api.Errno{Validate(x.n, x.c), e1, e2, e3, e4} {
			if e != x.e {
				t.Error(i, e)
			}
		}
	}
	if _, e := Holds(2, nil, []bool{true}); e != api.ErrArg {
		t.Error(e)
	}
	for _, l := range []int{0, 3, -3} {
		if _, e := Assign(2, nil, l); e != api.ErrArg {
			t.Error(e)
		}
		if _, e := Flip(2, nil, l); e != api.ErrArg {
			t.Error(e)
		}
	}
	if _, e := Flip(2, nil, -1); e != api.ErrArg {
		t.Error(e)
	}
	if _, e := Models(13, nil); e != api.ErrLarge {
		t.Error(e)
	}
	if n, e := Models(12, nil); n != 4096 || e != api.OK {
		t.Error(n, e)
	}
}

// P8.2
func TestExamples(t *testing.T) {
	c := [][]int{{1, 2}, {-1, 2}, {1, -2}}
	if m, p, is, e := Solve(2, c); !slices.Equal(m, []bool{true, true}) || p != nil || !is || e != api.OK {
		t.Error(m, p, is, e)
	}
	if n, _ := Models(2, c); n != 1 {
		t.Error(n)
	}
	c = append(c, []int{-1, -2})
	if m, p, is, e := Solve(2, c); m != nil || !isProof(c, p) || is || e != api.OK {
		t.Error(m, p, is, e)
	}
	if n, _ := Models(3, nil); n != 8 {
		t.Error(n)
	}
	if n, _ := Models(3, [][]int{nil}); n != 0 {
		t.Error(n)
	}
	if _, p, is, _ := Solve(0, [][]int{nil}); is || len(p) != 1 || len(p[0]) != 0 {
		t.Error(p, is)
	}
	if m, p, is, _ := Solve(0, nil); !is || m != nil && len(m) != 0 || p != nil {
		t.Error(m, p, is)
	}
	if m, _, is, _ := Solve(2, [][]int{{1, -1}, {2, 2}, {2, 1, 2}}); !is || !m[1] {
		t.Error(m, is)
	}
}

func TestSolveMany(t *testing.T) {
	r := &random{1}
	for k := range 1500 {
		n := 1 + r.next(10)
		c := r.clauses(n, r.next(5*n+3))
		before := slices.Clone(c)
		models, _ := Models(n, c)
		m, p, is, e := Solve(n, c)
		if e != api.OK || is != (models > 0) {
			t.Fatal(k, c, models, is, e)
		}
		if holds, _ := Holds(n, c, m); is && !holds || is && p != nil {
			t.Error(k, c, m)
		}
		if !is && (m != nil || !isProof(c, p)) {
			t.Error(k, c, p)
		}
		if !slices.EqualFunc(c, before, slices.Equal[[]int]) {
			t.Error("an argument was changed")
		}
		model, proof, has := tryAll(n, c)
		holds, _ := Holds(n, c, model)
		if has != is || is && !holds || !is && !isProof(c, proof) {
			t.Error(k, c, model, proof)
		}
	}
	for k := range 30 {
		c := r.clauses(60, 255)
		m, p, is, e := Solve(60, c)
		if holds, _ := Holds(60, c, m); e != api.OK || is && !holds || !is && !isProof(c, p) {
			t.Error(k, is, e)
		}
	}
}

func TestHard(t *testing.T) {
	for n := 1; n <= 6; n++ {
		v, c := holes(n)
		if _, p, is, e := Solve(v, c); is || e != api.OK || !isProof(c, p) {
			t.Error(n, is, e)
		}
	}
	v, c := holes(11)
	if m, p, is, e := Solve(v, c); is || m != nil || e == api.ErrLarge && p != nil {
		t.Error(is, e)
	}
}

func equal(a, b [][]int) bool {
	return slices.EqualFunc(a, b, slices.Equal[[]int])
}

// P8.3
func TestChanges(t *testing.T) {
	c := [][]int{{2, -1, 2}, {3, -3}, {1, -2, -2}, nil, {-1, 2}}
	if l, _ := Assign(3, c, 2); !equal(l, [][]int{{3, -3}, {1}, nil}) {
		t.Error(l)
	}
	if l, _ := Assign(3, c, -1); !equal(l, [][]int{{3, -3}, {-2, -2}, nil}) {
		t.Error(l)
	}
	if l, _ := Clean(3, c); !equal(l, [][]int{nil, {-2, 1}, {-1, 2}}) {
		t.Error(l)
	}
	if l, _ := Flip(3, c, 2); !equal(l, [][]int{{-2, -1, -2}, {3, -3}, {1, 2, 2}, nil, {-1, -2}}) {
		t.Error(l)
	}
	if l, _ := Pure(4, [][]int{{1, -2}, {1, 3, -3}, {-2, -4}}); !slices.Equal(l, []int{-4, -2, 1}) {
		t.Error(l)
	}
	r := &random{2}
	for range 400 {
		n := 1 + r.next(6)
		c := r.clauses(n, r.next(4*n))
		models, _ := Models(n, c)
		clean, _ := Clean(n, c)
		v := 1 + r.next(n)
		flipped, _ := Flip(n, c, v)
		yes, _ := Assign(n, c, v)
		no, _ := Assign(n, c, -v)
		a, _ := Models(n, clean)
		b, _ := Models(n, flipped)
		x, _ := Models(n, yes)
		y, _ := Models(n, no)
		if a != models || b != models || x+y != 2*models {
			t.Error(c, v, models, a, b, x, y)
		}
		pure, _ := Pure(n, c)
		for _, l := range pure {
			taken, _ := Assign(n, c, l)
			if left, _ := Models(n, taken); (left > 0) != (models > 0) {
				t.Error(c, l)
			}
		}
	}
}
