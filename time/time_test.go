package time_test

import (
	"slices"
	"testing"

	"backstay/api"
	"backstay/pick"
	"backstay/time"
)

type random struct{ seed int }

func (r *random) next(n int) int {
	r.seed = r.seed*6364136223846793005 + 1442695040888963407
	return int(uint(r.seed)>>33) % n
}

func li(d int) api.Code { return api.Code{Op: api.NLi, D: d, Imm: uint32(d)} }

func three(op, d, a, b int) api.Code { return api.Code{Op: op, D: d, A: a, B: b} }

// stretch makes n instructions over few registers, and memory that is there.
func stretch(r *random, n int) []api.Code {
	var l []api.Code
	for range n {
		d, a, b, imm := r.next(5), r.next(5), r.next(5), uint32(4*r.next(4))
		switch r.next(6) {
		case 0:
			l = append(l, api.Code{Op: api.NLi, D: d, Imm: uint32(r.next(9))})
		case 1:
			l = append(l, api.Code{Op: api.NLb + r.next(3), D: d, A: -1, Imm: imm})
		case 2:
			l = append(l, api.Code{Op: api.NSb + r.next(3), A: -1, B: b, Imm: imm})
		case 3:
			l = append(l, api.Code{Op: api.NMv, D: d, A: a})
		default:
			l = append(l, three([]int{api.NAdd, api.NMul, api.NXor, api.NDivu}[r.next(4)], d, a, b))
		}
	}
	return l
}

var example = []api.Code{three(api.NMul, 1, 4, 4), three(api.NAdd, 2, 1, 4), li(3)}

// P23.1
func TestErrors(t *testing.T) {
	for i, c := range []struct {
		l []api.Code
		e api.Errno
	}{
		{nil, api.OK},
		{slices.Repeat([]api.Code{li(1)}, 40), api.OK},
		{slices.Repeat([]api.Code{{Op: -1}}, 41), api.ErrLarge},
		{[]api.Code{li(1), {Op: api.NHalt}}, api.ErrArg},
		{[]api.Code{{Op: api.NJmp}}, api.ErrArg},
		{[]api.Code{{Op: api.NBnz}}, api.ErrArg},
		{[]api.Code{{Op: api.NStop}}, api.ErrArg},
		{[]api.Code{li(200)}, api.ErrArg},
		{[]api.Code{{Op: api.NLi, A: 1}}, api.ErrArg},
		{[]api.Code{{Op: api.NSw, A: -1, B: 199}}, api.OK},
	} {
		_, e1 := time.Issue(c.l)
		_, e2 := time.Cost(c.l)
		_, e3 := time.Depends(c.l)
		_, e4 := time.Schedule(c.l)
		_, e5 := time.Bound(c.l)
		for _, e := range []api.Errno{time.Validate(c.l), e1, e2, e3, e4, e5} {
			if e != c.e {
				t.Error(i, e)
			}
		}
		order := make([]int, len(c.l))
		for k := range order {
			order[k] = k
		}
		_, e1 = time.IsOrder(c.l, order)
		_, e2 = time.Apply(c.l, order)
		if e1 != c.e || e2 != c.e {
			t.Error(i, e1, e2)
		}
	}
	for _, order := range [][]int{nil, {0, 1}, {0, 1, 1}, {0, 1, 3}, {0, 1, -1}, {0, 1, 2, 2}} {
		_, e1 := time.IsOrder(example, order)
		_, e2 := time.Apply(example, order)
		if e1 != api.ErrArg || e2 != api.ErrArg {
			t.Error(order, e1, e2)
		}
	}
	seven := slices.Repeat([]api.Code{li(1)}, 7)
	_, e1 := time.Count(seven)
	_, _, e2 := time.Best(seven)
	if e1 != api.ErrLarge || e2 != api.ErrLarge {
		t.Error(e1, e2)
	}
	if _, e := time.Apply(example, []int{1, 0, 2}); e != api.ErrRule {
		t.Error(e)
	}
}

// P23.2
func TestExamples(t *testing.T) {
	for op, want := range map[int]int{api.NLi: 1, api.NMv: 1, api.NAdd: 1, api.NMul: 3, api.NDivu: 12, api.NRemu: 12, api.NDiv: 12, api.NRem: 12, api.NAnd: 1, api.NSeq: 1, api.NLb: 2, api.NLw: 2, api.NSb: 1, api.NSw: 1} {
		if n, e := time.Latency(op); n != want || e != api.OK {
			t.Error(op, n, e)
		}
	}
	for _, op := range []int{-1, api.NJmp, api.NHalt, 99} {
		if n, e := time.Latency(op); n != 0 || e != api.ErrArg {
			t.Error(op, n, e)
		}
	}
	if l, e := time.Issue(example); !slices.Equal(l, []int{0, 3, 4}) || e != api.OK {
		t.Error(l, e)
	}
	if n, _ := time.Cost(example); n != 5 {
		t.Error(n)
	}
	order, n, e := time.Best(example)
	if !slices.Equal(order, []int{0, 2, 1}) || n != 4 || e != api.OK {
		t.Error(order, n, e)
	}
	if n, _ := time.Bound(example); n != 4 {
		t.Error(n)
	}
	for i, c := range []struct {
		x, y api.Code
		want bool
	}{
		{li(1), three(api.NAdd, 2, 1, 3), true},
		{three(api.NAdd, 2, 1, 3), li(1), true},
		{li(1), li(1), true},
		{li(1), li(2), false},
		{api.Code{Op: api.NSw, A: -1}, api.Code{Op: api.NLw, D: 1, A: -1, Imm: 99}, true},
		{api.Code{Op: api.NLw, D: 1, A: -1}, api.Code{Op: api.NSw, A: -1, Imm: 99}, true},
		{api.Code{Op: api.NSw, A: -1}, api.Code{Op: api.NSb, A: -1, Imm: 99}, true},
		{api.Code{Op: api.NLw, D: 1, A: -1}, api.Code{Op: api.NLw, D: 2, A: -1}, false},
	} {
		l, e := time.Depends([]api.Code{c.x, c.y})
		if (len(l) == 1) != c.want || e != api.OK {
			t.Error(i, l, e)
		}
	}
	if n, e := time.Count([]api.Code{li(1), li(2), li(3)}); n != 6 || e != api.OK {
		t.Error(n, e)
	}
	if n, e := time.Count(nil); n != 1 || e != api.OK {
		t.Error(n, e)
	}
	if l, n, e := time.Best(nil); len(l) != 0 || n != 0 || e != api.OK {
		t.Error(l, n, e)
	}
}

func execute(t *testing.T, l []api.Code) ([]byte, int) {
	t.Helper()
	p := api.Program{Regs: 5, Blocks: [][]api.Code{append(slices.Clone(l), api.Code{Op: api.NSw, A: -1, B: 1, Imm: 16}, api.Code{Op: api.NSw, A: -1, B: 2, Imm: 20}, api.Code{Op: api.NHalt})}}
	mem := make([]byte, 24)
	for i := range mem {
		mem[i] = byte(i*9 + 1)
	}
	after, end, _, e := pick.Execute(p, mem, 1000)
	if e != api.OK {
		t.Fatal(l, e)
	}
	return after, end
}

// permutations tells all lists of numbers in ascending order.
func permutations(n int) [][]int {
	if n == 0 {
		return [][]int{nil}
	}
	var l [][]int
	for _, p := range permutations(n - 1) {
		for at := range n {
			l = append(l, slices.Insert(slices.Clone(p), at, n-1))
		}
	}
	slices.SortFunc(l, slices.Compare[[]int])
	return l
}

// P23.2 and P23.3
func TestMany(t *testing.T) {
	r := &random{1}
	all := [][][]int{permutations(0), permutations(1), permutations(2), permutations(3), permutations(4), permutations(5)}
	for range 300 {
		l := stretch(r, r.next(6))
		pairs, _ := time.Depends(l)
		count, least := 0, -1
		var best []int
		before, ended := execute(t, l)
		for _, order := range all[len(l)] {
			want := !slices.ContainsFunc(pairs, func(p [2]int) bool { return slices.Index(order, p[0]) > slices.Index(order, p[1]) })
			is, e := time.IsOrder(l, order)
			ordered, e2 := time.Apply(l, order)
			if is != want || e != api.OK || is != (e2 == api.OK) {
				t.Fatal(l, order, is, e, e2)
			}
			if !is {
				continue
			}
			count++
			if c, _ := time.Cost(ordered); least < 0 || c < least {
				best, least = order, c
			}
			if after, end := execute(t, ordered); ended == api.Halted && end == ended && !slices.Equal(before, after) {
				t.Error("another memory", l, order)
			}
		}
		n, _ := time.Count(l)
		order, cost, _ := time.Best(l)
		if n != count || !slices.Equal(order, best) || cost != least {
			t.Error(l, n, count, order, best, cost, least)
		}
	}
	for range 300 {
		l := stretch(r, r.next(41))
		order, e := time.Schedule(l)
		ordered, e2 := time.Apply(l, order)
		was, _ := time.Cost(l)
		is, _ := time.Cost(ordered)
		bound, _ := time.Bound(l)
		if e != api.OK || e2 != api.OK || is > was || is < bound || is < len(l) {
			t.Error(l, order, was, is, bound, e, e2)
		}
		if len(l) <= 6 {
			if _, best, _ := time.Best(l); best > is {
				t.Error(l, best, is)
			}
		}
		checkIssue(t, l)
	}
}

// checkIssue checks each cycle by the definition.
func checkIssue(t *testing.T, l []api.Code) {
	t.Helper()
	cycles, _ := time.Issue(l)
	most := 0
	for i, x := range l {
		at := 0
		if i > 0 {
			at = cycles[i-1] + 1
		}
		used, _ := pick.Uses(x)
		for _, r := range used {
			for j := i - 1; j >= 0; j-- {
				if d, is, _ := pick.Defines(l[j]); is && d == r {
					n, _ := time.Latency(l[j].Op)
					at = max(at, cycles[j]+n)
					break
				}
			}
		}
		if cycles[i] != at {
			t.Error(l, cycles, i, at)
		}
		n, _ := time.Latency(x.Op)
		most = max(most, at+n)
	}
	if n, _ := time.Cost(l); n != most {
		t.Error(l, n, most)
	}
}
