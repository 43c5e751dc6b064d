package proof

import (
	"slices"
	"testing"

	"backstay/api"
	"backstay/sat"
)

// naive is unit propagation by its definition.
func naive(c [][]int, given []int) ([]int, bool) {
	is := map[int]bool{}
	for _, l := range given {
		is[l] = true
	}
	for l := range is {
		if is[-l] {
			return nil, true
		}
	}
	for changed := true; changed; {
		changed = false
		for _, clause := range c {
			left := map[int]bool{}
			satisfied := false
			for _, l := range clause {
				satisfied = satisfied || is[l]
				if !is[-l] {
					left[l] = true
				}
			}
			if satisfied || len(left) > 1 {
				continue
			}
			if len(left) == 0 {
				return nil, true
			}
			for l := range left {
				is[l] = true
				changed = true
			}
		}
	}
	var l []int
	for x := range is {
		l = append(l, x)
	}
	slices.Sort(l)
	return l, false
}

func follows(c [][]int, clause []int) bool {
	var given []int
	for _, l := range clause {
		given = append(given, -l)
	}
	_, is := naive(c, given)
	return is
}

// first is the result of Check by its definition.
func first(c, l [][]int) (int, bool) {
	all := slices.Clone(c)
	for i, clause := range l {
		if !follows(all, clause) {
			return i, false
		}
		all = append(all, clause)
	}
	return len(l), len(l) > 0 && len(l[len(l)-1]) == 0
}

type random struct{ seed int }

func (r *random) next(n int) int {
	r.seed = r.seed*6364136223846793005 + 1442695040888963407
	return int(uint(r.seed)>>33) % n
}

func (r *random) clauses(n, m int) [][]int {
	var c [][]int
	for range m {
		var clause []int
		for range 3 - r.next(4)/3 - r.next(8)/7 {
			l := 1 + r.next(n)
			clause = append(clause, l*(1-2*r.next(2)))
		}
		c = append(c, clause)
	}
	return c
}

// P9.1
func TestErrors(t *testing.T) {
	for i, x := range []struct {
		n int
		c [][]int
		e api.Errno
	}{
		{-1, [][]int{{9}}, api.ErrLarge},
		{4001, nil, api.ErrLarge},
		{2, [][]int{{0}}, api.ErrArg},
		{2, [][]int{{-3}}, api.ErrArg},
		{2, [][]int{{-1 << 63}}, api.ErrArg},
		{2, slices.Repeat([][]int{{9}}, 24001), api.ErrLarge},
		{2, slices.Repeat([][]int{{1}}, 24000), api.OK},
	} {
		_, e1 := CheckModel(x.n, x.c, []bool{true, true})
		_, _, e2 := Units(x.n, x.c, nil)
		_, e3 := Follows(x.n, x.c, nil)
		for _, e := range []api.Errno{Validate(x.n, x.c), e1, e2, e3} {
			if e != x.e {
				t.Error(i, e)
			}
		}
		if x.e == api.OK {
			continue
		}
		_, e1 = Check(x.n, x.c, nil)
		_, e2 = Trim(x.n, x.c, nil)
		_, e3 = Check(max(x.n, 0)%4001, nil, x.c)
		if e1 != x.e || e2 != x.e || x.n == 2 && e3 != x.e {
			t.Error(i, e1, e2, e3)
		}
	}
	two := [][]int{{1}}
	if _, e := CheckModel(2, two, []bool{true}); e != api.ErrArg {
		t.Error(e)
	}
	if _, _, e := Units(2, two, []int{3}); e != api.ErrArg {
		t.Error(e)
	}
	if _, e := Follows(2, two, []int{0}); e != api.ErrArg {
		t.Error(e)
	}
	for i, x := range []struct {
		a, b []int
		v    int
		e    api.Errno
	}{
		{[]int{4}, []int{-1}, 9, api.ErrArg},
		{[]int{1}, []int{-4}, 9, api.ErrArg},
		{[]int{1}, []int{-1}, 0, api.ErrArg},
		{[]int{1}, []int{-1}, -1, api.ErrArg},
		{[]int{1}, []int{-1}, 4, api.ErrArg},
		{[]int{2}, []int{-1}, 1, api.ErrNone},
		{[]int{1}, []int{1}, 1, api.ErrNone},
		{[]int{1}, []int{-1}, 1, api.OK},
	} {
		if _, e := Resolve(3, x.a, x.b, x.v); e != x.e {
			t.Error(i, e)
		}
	}
}

// P9.2
func TestUnits(t *testing.T) {
	c := [][]int{{1, 2}, {-1, 2}, {1, -2}, {-1, -2}}
	if l, is, e := Units(2, c, []int{1}); l != nil || !is || e != api.OK {
		t.Error(l, is, e)
	}
	if is, e := Follows(2, c, []int{-1}); !is || e != api.OK {
		t.Error(is, e)
	}
	if l, is, _ := Units(4, [][]int{{-1, 2, 2}, {-2, 3, -1}, {4, -4}}, []int{1, 1}); !slices.Equal(l, []int{1, 2, 3}) || is {
		t.Error(l, is)
	}
	if _, is, _ := Units(2, nil, []int{2, -2}); !is {
		t.Error("both literals of a variable")
	}
	if is, _ := Follows(2, nil, []int{2, -2}); !is {
		t.Error("both literals of a variable follow")
	}
	for i, x := range []struct {
		model []bool
		n     int
		e     api.Errno
	}{{[]bool{false, false}, 0, api.ErrProof}, {[]bool{true, false}, 1, api.ErrProof}, {[]bool{false, true}, 2, api.ErrProof}, {[]bool{true, true}, 3, api.ErrProof}} {
		if n, e := CheckModel(2, c, x.model); n != x.n || e != x.e {
			t.Error(i, n, e)
		}
	}
	if n, e := CheckModel(2, c[:3], []bool{true, true}); n != 0 || e != api.OK {
		t.Error(n, e)
	}
	r := &random{1}
	for k := range 3000 {
		n := 1 + r.next(8)
		c := r.clauses(n, r.next(3*n))
		var given []int
		for range r.next(3) {
			given = append(given, (1+r.next(n))*(1-2*r.next(2)))
		}
		want, conflict := naive(c, given)
		if l, is, e := Units(n, c, given); !slices.Equal(l, want) || is != conflict || e != api.OK {
			t.Error(k, c, given, l, want)
		}
		if is, e := Follows(n, c, given); is != follows(c, given) || e != api.OK {
			t.Error(k, c, given, is)
		}
	}
}

// P9.3
func TestCheck(t *testing.T) {
	c := [][]int{{1, 2}, {-1, 2}, {1, -2}, {-1, -2}}
	for i, x := range []struct {
		l [][]int
		n int
		e api.Errno
	}{
		{[][]int{{-1}, nil}, 2, api.OK},
		{[][]int{{-1}}, 1, api.ErrProof},
		{nil, 0, api.ErrProof},
		{[][]int{nil}, 0, api.ErrProof},
		{[][]int{{1}, {2}, {2, 1}, nil, {1}}, 5, api.ErrProof},
		{[][]int{{1}, nil, nil}, 3, api.OK},
	} {
		if n, e := Check(2, c, x.l); n != x.n || e != x.e {
			t.Error(i, n, e)
		}
	}
	if n, e := Check(3, [][]int{{1, 2}}, [][]int{{1, 2, 3}, {3}, nil}); n != 1 || e != api.ErrProof {
		t.Error(n, e)
	}
	r := &random{3}
	for k := range 1500 {
		n := 1 + r.next(7)
		c := r.clauses(n, r.next(6*n))
		l := r.clauses(n, r.next(5))
		if _, proof, is, _ := sat.Solve(n, c); !is {
			l = append(l[:r.next(2)*len(l)/2], proof...)
		}
		want, is := first(c, l)
		got, e := Check(n, c, l)
		if got != want || (e == api.OK) != is {
			t.Error(k, c, l, got, want, e)
		}
		trimmed, e := Trim(n, c, l)
		if (e == api.OK) != is || !is && trimmed != nil {
			t.Error(k, c, l, trimmed, e)
		}
		if is && !slices.EqualFunc(trimmed, trim(c, l), slices.Equal[[]int]) {
			t.Error(k, c, l, trimmed, trim(c, l))
		}
		if again, _ := Trim(n, c, trimmed); is && !slices.EqualFunc(trimmed, again, slices.Equal[[]int]) {
			t.Error(k, c, trimmed, again)
		}
	}
}

// trim is Trim by its definition.
func trim(c, l [][]int) [][]int {
	left := slices.Clone(l)
	for i := len(l) - 2; i >= 0; i-- {
		less := slices.Delete(slices.Clone(left), i, i+1)
		if _, is := first(c, less); is {
			left = less
		}
	}
	return left
}

func TestResolve(t *testing.T) {
	if l, e := Resolve(3, []int{1, 2}, []int{-1, 3}, 1); !slices.Equal(l, []int{2, 3}) || e != api.OK {
		t.Error(l, e)
	}
	if l, _ := Resolve(3, []int{1, 3, -2, 1}, []int{-1, 1, -2}, 1); !slices.Equal(l, []int{-2, 1, 3}) {
		t.Error(l)
	}
	if l, e := Resolve(1, []int{1}, []int{-1}, 1); len(l) != 0 || e != api.OK {
		t.Error(l, e)
	}
	r := &random{5}
	for range 500 {
		c := r.clauses(4, 2)
		for v := 1; v <= 4; v++ {
			l, e := Resolve(4, c[0], c[1], v)
			if e != api.OK {
				continue
			}
			if is, _ := Follows(4, c, l); !is || !slices.IsSorted(l) {
				t.Error(c, v, l)
			}
		}
	}
}
