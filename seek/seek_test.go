package seek_test

import (
	"slices"
	"testing"

	"backstay/api"
	"backstay/bits"
	"backstay/pool"
	"backstay/rule"
	"backstay/seek"
	"backstay/term"
)

func node(op int, args ...int) api.Node {
	return api.Node{Op: op, Args: args}
}

var (
	x0 = api.Node{Op: api.Var}
	x1 = api.Node{Op: api.Var, Imm: 1}
)

func number(n uint32) api.Node {
	return api.Node{Op: api.Const, Imm: n}
}

func wide(w int, l ...api.Node) []api.Node {
	for i := range l {
		l[i].Width = w
	}
	return l
}

// P13.1
func TestErrors(t *testing.T) {
	good := []api.Step{{Op: api.Add, A: 0, B: 2}}
	for i, c := range []struct {
		k, w int
		row  []api.Step
		e    api.Errno
	}{
		{1, 3, good, api.OK},
		{1, 3, nil, api.OK},
		{0, 3, nil, api.ErrArg},
		{3, 3, nil, api.ErrArg},
		{1, 0, nil, api.ErrArg},
		{1, 4, make([]api.Step, 3), api.ErrArg},
		{1, 3, make([]api.Step, 3), api.ErrLarge},
		{1, 3, []api.Step{{Op: api.Mul}}, api.ErrArg},
		{1, 3, []api.Step{{Op: api.AShr}}, api.ErrArg},
		{1, 3, []api.Step{{Op: api.Add, A: 3}}, api.ErrArg},
		{2, 3, []api.Step{{Op: api.Add, A: 3}}, api.OK},
		{1, 3, []api.Step{{Op: api.Add, B: -1}}, api.ErrArg},
		{1, 3, []api.Step{{Op: api.LShr}, {Op: api.Shl, A: 3, B: 3}}, api.OK},
		{1, 3, []api.Step{{Op: api.LShr}, {Op: api.Shl, A: 4}}, api.ErrArg},
	} {
		_, e1 := seek.Meaning(c.k, c.w, c.row)
		_, e2 := seek.Term(c.k, c.w, c.row)
		_, e3 := seek.IsShortest(c.k, c.w, c.row)
		for _, e := range []api.Errno{seek.Validate(c.k, c.w, c.row), e1, e2, e3} {
			if e != c.e {
				t.Error(i, e)
			}
		}
	}
	for i, c := range []struct {
		k, w  int
		table []uint32
	}{{0, 1, []uint32{0}}, {1, 4, make([]uint32, 16)}, {1, 1, []uint32{0}}, {1, 1, []uint32{0, 2}}, {2, 1, []uint32{0, 1}}, {1, 1, []uint32{0, 1, 1}}} {
		row, is, e := seek.Shortest(c.k, c.w, c.table)
		n, e2 := seek.Count(c.k, c.w, c.table, 0)
		if row != nil || is || n != 0 || e != api.ErrArg || e2 != api.ErrArg {
			t.Error(i, row, is, n, e, e2)
		}
	}
	for _, length := range []int{-1, 3} {
		if _, e := seek.Count(1, 1, []uint32{0, 1}, length); e != api.ErrArg {
			t.Error(length, e)
		}
	}
}

func result(k, w int, row []api.Step, in ...uint32) uint32 {
	l := append(slices.Clone(in), 1, 1<<w-1)
	last := in[0]
	for _, s := range row {
		last, _ = bits.Total(s.Op, w, l[s.A], l[s.B])
		l = append(l, last)
	}
	return last
}

// P13.2
func TestMeanings(t *testing.T) {
	rows := [][]api.Step{
		nil,
		{{Op: api.Add, A: 0, B: 0}},
		{{Op: api.Sub, A: 1, B: 0}},
		{{Op: api.Shl, A: 0, B: 1}, {Op: api.LShr, A: 3, B: 0}},
		{{Op: api.Xor, A: 0, B: 2}, {Op: api.And, A: 3, B: 1}},
	}
	for k := 1; k <= 2; k++ {
		for w := 1; w <= 3; w++ {
			for _, row := range rows {
				l, e := seek.Meaning(k, w, row)
				if e != api.OK || len(l) != 1<<(k*w) {
					t.Fatal(k, w, row, l, e)
				}
				for at, n := range l {
					in := []uint32{uint32(at)}
					if k == 2 {
						in = []uint32{uint32(at >> w), uint32(at & (1<<w - 1))}
					}
					if want := result(k, w, row, in...); n != want {
						t.Error(k, w, row, in, n, want)
					}
				}
				u, e := seek.Term(k, w, row)
				m, e2 := seek.MeaningOf(u, k, w)
				if !slices.Equal(l, m) || e != api.OK || e2 != api.OK {
					t.Error(k, w, row, u, m, e, e2)
				}
			}
		}
	}
}

func TestMeaningOfErrors(t *testing.T) {
	for i, c := range []struct {
		t    []api.Node
		k, w int
		e    api.Errno
	}{
		{nil, 0, 0, api.ErrLarge},
		{wide(9, x0, node(api.ZExt, 0)), 0, 0, api.ErrType},
		{wide(2, x0), 0, 2, api.ErrArg},
		{wide(2, x0), 1, 4, api.ErrArg},
		{wide(2, x0), 1, 3, api.ErrType},
		{append(wide(1, x1), wide(2, x0)...), 1, 2, api.ErrType},
		{append(wide(1, x0), wide(2, node(api.ZExt, 0))...), 1, 2, api.ErrType},
		{wide(2, x0, x1), 1, 2, api.ErrRule},
		{wide(2, x0, x1), 2, 2, api.OK},
		{wide(2, x0, api.Node{Op: api.Var, Imm: 2}, x0), 2, 2, api.ErrRule},
	} {
		if _, e := seek.MeaningOf(c.t, c.k, c.w); e != c.e {
			t.Error(i, e)
		}
	}
}

// before tells the order of rows.
func before(a, b []api.Step) bool {
	if len(a) != len(b) {
		return len(a) < len(b)
	}
	for i := range a {
		x, y := []int{a[i].Op, a[i].A, a[i].B}, []int{b[i].Op, b[i].A, b[i].B}
		if c := slices.Compare(x, y); c != 0 {
			return c < 0
		}
	}
	return false
}

// all tells all rows of a length, in some order.
func all(k, length int) [][]api.Step {
	if length == 0 {
		return [][]api.Step{nil}
	}
	var l [][]api.Step
	for _, row := range all(k, length-1) {
		for _, op := range []int{api.LShr, api.Shl, api.Xor, api.Or, api.And, api.Sub, api.Add} {
			for a := range k + 1 + length {
				for b := range k + 1 + length {
					l = append(l, append(slices.Clone(row), api.Step{Op: op, A: a, B: b}))
				}
			}
		}
	}
	return l
}

func TestShortest(t *testing.T) {
	for k := 1; k <= 2; k++ {
		w := 3 - k
		firsts := map[string][]api.Step{}
		counts := map[string][3]int{}
		name := func(l []uint32) string {
			s := ""
			for _, n := range l {
				s += string(rune('a' + n))
			}
			return s
		}
		for length := range 3 {
			for _, row := range all(k, length) {
				l, _ := seek.Meaning(k, w, row)
				s := name(l)
				if best, is := firsts[s]; !is || before(row, best) {
					firsts[s] = row
				}
				c := counts[s]
				c[length]++
				counts[s] = c
			}
		}
		tables := 1 << (w << (k * w))
		for n := 0; n < tables; n += 1 + tables/97 {
			table := make([]uint32, 1<<(k*w))
			for i := range table {
				table[i] = uint32(n >> (w * i) & (1<<w - 1))
			}
			best, has := firsts[name(table)]
			row, is, e := seek.Shortest(k, w, table)
			if is != has || !slices.Equal(row, best) || e != api.OK {
				t.Error(k, w, table, row, best, is, has, e)
			}
			for length, want := range counts[name(table)] {
				if got, e := seek.Count(k, w, table, length); got != want || e != api.OK {
					t.Error(k, w, table, length, got, want, e)
				}
			}
		}
		for i, row := range all(k, 2) {
			if i%211 == 0 {
				l, _ := seek.Meaning(k, w, row)
				if is, e := seek.IsShortest(k, w, row); is != (len(firsts[name(l)]) == 2) || e != api.OK {
					t.Error(k, w, row, is, e)
				}
			}
		}
	}
	// x minus 1 minus x plus x is x minus 1.
	u := wide(3, x0, number(1), node(api.Sub, 0, 1), node(api.Sub, 2, 0), node(api.Add, 3, 0))
	l, _ := seek.MeaningOf(u, 1, 3)
	if row, is, _ := seek.Shortest(1, 3, l); !is || !slices.Equal(row, []api.Step{{Op: api.Add, A: 0, B: 2}}) {
		t.Error(row, is)
	}
}

// P13.3
func TestConstant(t *testing.T) {
	xor := wide(3, x0, x1, node(api.Xor, 0, 1))
	table := make([]uint32, 8)
	for i := range table {
		table[i] = uint32(7 - i)
	}
	if c, is, e := seek.Constant(xor, 3, table); c != 7 || !is || e != api.OK {
		t.Error(c, is, e)
	}
	table[3] = 0
	if c, is, e := seek.Constant(xor, 3, table); c != 0 || is || e != api.OK {
		t.Error(c, is, e)
	}
	// Several words do; the smallest one is told.
	over := wide(2, x0, x1, node(api.Shl, 0, 1))
	if c, is, _ := seek.Constant(over, 2, []uint32{0, 0, 0, 0}); c != 2 || !is {
		t.Error(c, is)
	}
	if c, is, _ := seek.Constant(wide(2, x0), 2, []uint32{0, 1, 2, 3}); c != 0 || !is {
		t.Error(c, is)
	}
	for i, c := range []struct {
		t     []api.Node
		w     int
		table []uint32
		e     api.Errno
	}{
		{nil, 9, nil, api.ErrLarge},
		{xor, 4, nil, api.ErrArg},
		{xor, 2, nil, api.ErrType},
		{wide(3, x0, api.Node{Op: api.Var, Imm: 2}), 3, nil, api.ErrRule},
		{xor, 3, make([]uint32, 64), api.ErrArg},
		{xor, 3, []uint32{0, 0, 0, 0, 0, 0, 0, 8}, api.ErrArg},
	} {
		if _, is, e := seek.Constant(c.t, c.w, c.table); is || e != c.e {
			t.Error(i, is, e)
		}
	}
}

func TestFind(t *testing.T) {
	both := []api.Node{x0, x1, node(api.And, 0, 1), node(api.Or, 0, 1), node(api.Add, 2, 3)}
	for i, c := range []struct {
		p    []api.Node
		is   bool
		want []api.Node
	}{
		{both, true, []api.Node{x0, x1, node(api.Add, 0, 1)}},
		{[]api.Node{x0, node(api.Add, 0, 0)}, false, nil},
		{[]api.Node{x0}, false, nil},
		{[]api.Node{x0, node(api.And, 0, 0)}, true, []api.Node{x0}},
		{[]api.Node{x0, x1, node(api.Xor, 0, 1), node(api.Xor, 2, 1)}, true, []api.Node{x0}},
		{[]api.Node{x0, number(1), node(api.Sub, 0, 1), node(api.Sub, 2, 0), node(api.Add, 3, 0)}, true, []api.Node{x0, number(1<<32 - 1), node(api.Add, 0, 1)}},
		{[]api.Node{x0, number(2), node(api.UDiv, 0, 1), node(api.Mul, 2, 1)}, false, nil},
		{[]api.Node{x0, number(1<<32 - 1), node(api.Mul, 0, 1), node(api.Mul, 2, 1), node(api.Mul, 3, 1)}, true, []api.Node{x0, node(api.Add, 0, 0), node(api.Sub, 0, 1)}},
	} {
		r, is, e := seek.Find(c.p)
		if is != c.is || e != api.OK {
			t.Error(i, r, is, e)
			continue
		}
		if !is {
			if r.Left != nil || r.Right != nil {
				t.Error(i, r)
			}
			continue
		}
		if rule.Validate(r) != api.OK || !pool.Same(r.Left, c.p) || r.Pre != nil {
			t.Error(i, r)
		}
		if got := pool.Share(r.Right, len(r.Right)-1); !pool.Same(got, c.want) {
			t.Error(i, got, c.want)
		}
		checkSides(t, r)
	}
}

// checkSides checks that both sides are equal in each environment.
func checkSides(t *testing.T, r api.Rule) {
	t.Helper()
	for w := 1; w <= 3; w++ {
		left, right, _ := rule.Sides(r, w, []uint32{0, 0})
		for a := range uint32(1) << w {
			for b := range uint32(1) << w {
				env := []uint32{a, b, 0, 0}
				n, _ := term.Eval(left, env)
				m, _ := term.Eval(right, env)
				if n != m {
					t.Error(r, w, env, n, m)
				}
			}
		}
	}
}

func TestFindErrors(t *testing.T) {
	flagged := node(api.Add, 0, 0)
	flagged.Flags = 1
	cmp := node(api.Cmp, 0, 0)
	cmp.Width = 1
	for i, c := range []struct {
		p []api.Node
		e api.Errno
	}{
		{nil, api.ErrLarge},
		{[]api.Node{{Op: api.Hole}, {Op: api.Trail, Args: []int{0}}}, api.ErrArg},
		{[]api.Node{{Op: api.Hole}}, api.ErrRule},
		{[]api.Node{x0, {Op: api.Hole}, node(api.Add, 0, 1)}, api.ErrRule},
		{[]api.Node{x0, flagged}, api.ErrRule},
		{[]api.Node{x0, cmp}, api.ErrRule},
		{[]api.Node{number(1)}, api.ErrRule},
		{[]api.Node{x1}, api.ErrRule},
		{[]api.Node{x1, x0}, api.ErrRule},
		{[]api.Node{x0, wide(8, number(1))[0], node(api.Add, 0, 0)}, api.ErrRule},
		{[]api.Node{x0, wide(8, number(1))[0], node(api.Add, 0, 1)}, api.ErrType},
	} {
		if _, is, e := seek.Find(c.p); is || e != c.e {
			t.Error(i, is, e)
		}
	}
}
