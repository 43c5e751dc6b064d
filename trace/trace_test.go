package trace_test

import (
	"bytes"
	"slices"
	"testing"

	"backstay/api"
	"backstay/trace"
)

var table = []api.Place{
	{From: 0, To: 4, Var: 1, N: 3},
	{From: 0, To: 8, Var: 2, Kind: 2, N: 1<<32 - 1},
	{From: 4, To: 8, Var: 1, N: 3},
	{From: 10, To: 20, Var: 1, Kind: 1, N: 8},
	{From: 20, To: api.MaxMemory, Var: 1, Kind: 1, N: 9},
}

type random struct{ seed int }

func (r *random) next(n int) int {
	r.seed = r.seed*6364136223846793005 + 1442695040888963407
	return int(uint(r.seed)>>33) % n
}

// tables makes a table of few variables and addresses.
func tables(r *random) []api.Place {
	var l []api.Place
	for range r.next(12) {
		from := r.next(30)
		l = append(l, api.Place{From: from, To: from + 1 + r.next(8), Var: r.next(3), Kind: r.next(3), N: r.next(2)})
	}
	slices.SortFunc(l, func(a, b api.Place) int {
		return slices.Compare([]int{a.From, a.To, a.Var, a.Kind, a.N}, []int{b.From, b.To, b.Var, b.Kind, b.N})
	})
	var kept []api.Place
	for _, p := range l {
		if more := append(slices.Clone(kept), p); trace.Validate(more) == api.OK {
			kept = more
		}
	}
	return kept
}

// P24.1
func TestValidate(t *testing.T) {
	change := func(e api.Errno, what func(l []api.Place) []api.Place) {
		t.Helper()
		l := what(slices.Clone(table))
		_, _, e1 := trace.Find(l, 0, 0)
		_, e2 := trace.Variables(l, 0)
		_, _, e3 := trace.Value(l, api.Machine{}, 0)
		_, e4 := trace.Encode(l)
		_, e5 := trace.Cut(l, 0, 0)
		_, e6 := trace.Shift(l, 0)
		_, e7 := trace.Merge(l)
		_, e8 := trace.Holes(l, 0, 0, 0)
		for i, got := range []api.Errno{trace.Validate(l), e1, e2, e3, e4, e5, e6, e7, e8} {
			if got != e {
				t.Error(i, got, e)
			}
		}
	}
	change(api.OK, func(l []api.Place) []api.Place { return l })
	change(api.OK, func(l []api.Place) []api.Place { return nil })
	change(api.ErrLarge, func(l []api.Place) []api.Place { return make([]api.Place, 65) })
	change(api.ErrArg, func(l []api.Place) []api.Place { l[0].From = -1; return l })
	change(api.ErrArg, func(l []api.Place) []api.Place { l[4].To = api.MaxMemory + 1; return l })
	change(api.ErrArg, func(l []api.Place) []api.Place { l[0].To = 0; return l })
	change(api.ErrArg, func(l []api.Place) []api.Place { l[0].Var = 64; return l })
	change(api.ErrArg, func(l []api.Place) []api.Place { l[0].Var = -1; return l })
	change(api.OK, func(l []api.Place) []api.Place { l[1].Var = 63; return l })
	change(api.ErrArg, func(l []api.Place) []api.Place { l[0].Kind = 3; return l })
	change(api.ErrArg, func(l []api.Place) []api.Place { l[0].N = 32; return l })
	change(api.ErrArg, func(l []api.Place) []api.Place { l[0].N = -1; return l })
	change(api.ErrArg, func(l []api.Place) []api.Place { l[1].N = 1 << 32; return l })
	change(api.ErrArg, func(l []api.Place) []api.Place { l[3].N = api.MaxMemory - 3; return l })
	change(api.OK, func(l []api.Place) []api.Place { l[3].N = api.MaxMemory - 4; return l })
	change(api.ErrArg, func(l []api.Place) []api.Place { l[0], l[1] = l[1], l[0]; return l })
	change(api.ErrArg, func(l []api.Place) []api.Place { return append(l, l[4]) })
	change(api.ErrRule, func(l []api.Place) []api.Place { l[1].Var = 1; return l })
	change(api.ErrRule, func(l []api.Place) []api.Place { l[3].To = 21; return l })
	for i, c := range []struct{ variable, from, to int }{{-1, 0, 0}, {64, 0, 0}, {0, -1, 0}, {0, api.MaxMemory + 1, api.MaxMemory + 1}} {
		_, _, e1 := trace.Find(table, c.variable, c.from)
		_, e2 := trace.Holes(table, c.variable, c.from, c.to)
		if e1 != api.ErrArg || e2 != api.ErrArg {
			t.Error(i, e1, e2)
		}
		_, e1 = trace.Variables(table, c.from)
		_, e2 = trace.Cut(table, c.from, c.to)
		_, _, e3 := trace.Value(table, api.Machine{}, c.variable)
		if c.variable == 0 && (e1 != api.ErrArg || e2 != api.ErrArg) || c.variable != 0 && e3 != api.ErrArg {
			t.Error(i, e1, e2, e3)
		}
	}
	if _, e := trace.Cut(table, 5, 4); e != api.ErrArg {
		t.Error(e)
	}
	if _, e := trace.Holes(table, 0, 0, api.MaxMemory+1); e != api.ErrArg {
		t.Error(e)
	}
}

// P24.2
func TestFind(t *testing.T) {
	for _, c := range []struct{ variable, address, at int }{{1, 0, 0}, {1, 3, 0}, {1, 4, 2}, {1, 8, -1}, {1, 10, 3}, {1, 20, 4}, {1, api.MaxMemory, -1}, {2, 7, 1}, {2, 8, -1}, {0, 0, -1}} {
		p, is, e := trace.Find(table, c.variable, c.address)
		if is != (c.at >= 0) || e != api.OK || is && p != table[c.at] || !is && p != (api.Place{}) {
			t.Error(c, p, is, e)
		}
	}
	for address, want := range map[int][]int{0: {1, 2}, 8: nil, 7: {1, 2}, 9: nil, 15: {1}} {
		if l, e := trace.Variables(table, address); !slices.Equal(l, want) || e != api.OK {
			t.Error(address, l, e)
		}
	}
	m := api.Machine{Mem: []byte{0, 0, 0, 0, 0, 0, 0, 0, 1, 2, 3, 4}}
	m.Regs[3] = 77
	for _, c := range []struct {
		at       uint32
		variable int
		n        uint32
		is       bool
		e        api.Errno
	}{{0, 1, 77, true, api.OK}, {0, 2, 1<<32 - 1, true, api.OK}, {8, 1, 0, false, api.OK}, {10, 1, 0x04030201, true, api.OK}, {20, 1, 0, false, api.ErrNone}, {1<<32 - 1, 1, 0, false, api.OK}} {
		m.At = c.at
		if n, is, e := trace.Value(table, m, c.variable); n != c.n || is != c.is || e != c.e {
			t.Error(c, n, is, e)
		}
	}
}

func TestHoles(t *testing.T) {
	for _, c := range []struct {
		variable, from, to int
		want               [][2]int
	}{
		{1, 0, 30, [][2]int{{8, 10}}}, {1, 9, 10, [][2]int{{9, 10}}}, {1, 8, 9, [][2]int{{8, 9}}}, {1, 8, 8, nil}, {0, 5, 9, [][2]int{{5, 9}}}, {2, 3, 20, [][2]int{{8, 20}}}, {2, 0, api.MaxMemory, [][2]int{{8, api.MaxMemory}}},
	} {
		if l, e := trace.Holes(table, c.variable, c.from, c.to); !slices.Equal(l, c.want) || e != api.OK {
			t.Error(c, l, e)
		}
	}
}

// P24.3
func TestCode(t *testing.T) {
	b, e := trace.Encode([]api.Place{{To: 200, Var: 1, N: 5}})
	if !bytes.Equal(b, []byte{1, 0, 0xc8, 1, 1, 0, 5}) || e != api.OK {
		t.Error(b, e)
	}
	if b, _ := trace.Encode(nil); !bytes.Equal(b, []byte{0}) {
		t.Error(b)
	}
	if l, e := trace.Decode([]byte{0}); len(l) != 0 || e != api.OK {
		t.Error(l, e)
	}
	for i, b := range [][]byte{
		nil, {1}, {0, 0}, {1, 128, 0, 0xc8, 1, 1, 0, 5}, {1, 0, 0xc8, 0x81, 0, 1, 0, 5}, {1, 0, 0xc8, 1, 1, 0}, {1, 0, 0xc8, 1, 1, 0, 5, 0}, {128}, {128, 0},
		{65}, {1, 0, 0, 1, 0, 5}, {1, 0, 1, 1, 3, 5}, {1, 0, 1, 1, 0, 32}, {2, 0, 1, 1, 0, 5, 0, 1, 1, 0, 5}, {1, 0, 255, 255, 255, 255, 255, 255, 255, 255, 255, 255, 1, 1, 0, 5},
		{1, 0, 1, 1, 2, 128, 128, 128, 128, 16},
	} {
		if l, e := trace.Decode(b); l != nil || e != api.ErrSyntax {
			t.Error(i, l, e)
		}
	}
	r := &random{1}
	for range 2000 {
		l := tables(r)
		b, e := trace.Encode(l)
		m, e2 := trace.Decode(b)
		if !slices.Equal(l, m) || e != api.OK || e2 != api.OK {
			t.Error(l, b, m, e, e2)
		}
		if len(b) > 1 {
			b[r.next(len(b))] = byte(r.next(256))
		}
		if m, e := trace.Decode(b); e == api.OK {
			if again, _ := trace.Encode(m); !bytes.Equal(again, b) {
				t.Error(b, m, again)
			}
		}
	}
	if b, _ := trace.Encode(table); len(b) == 0 {
		t.Error(b)
	} else if l, e := trace.Decode(b); !slices.Equal(l, table) || e != api.OK {
		t.Error(l, e)
	}
}

func TestCutShiftMerge(t *testing.T) {
	cut, e := trace.Cut(table, 3, 12)
	want := []api.Place{{From: 3, To: 4, Var: 1, N: 3}, {From: 3, To: 8, Var: 2, Kind: 2, N: 1<<32 - 1}, {From: 4, To: 8, Var: 1, N: 3}, {From: 10, To: 12, Var: 1, Kind: 1, N: 8}}
	if !slices.Equal(cut, want) || e != api.OK {
		t.Error(cut, e)
	}
	shifted, e := trace.Shift(table[:3], 5)
	if e != api.OK || shifted[0].From != 5 || shifted[2].To != 13 || table[0].From != 0 {
		t.Error(shifted, e)
	}
	for _, by := range []int{-1, 1, 1<<63 - 1, -1 << 63} {
		if l, e := trace.Shift(table, by); l != nil || e != api.ErrArg {
			t.Error(by, l, e)
		}
	}
	if l, e := trace.Shift(nil, 1<<63-1); l != nil || e != api.OK {
		t.Error(l, e)
	}
	merged, e := trace.Merge(table)
	want = []api.Place{{From: 0, To: 8, Var: 1, N: 3}, {From: 0, To: 8, Var: 2, Kind: 2, N: 1<<32 - 1}, table[3], table[4]}
	if !slices.Equal(merged, want) || e != api.OK {
		t.Error(merged, e)
	}
	r := &random{4}
	for range 1500 {
		l := tables(r)
		checkMany(t, l, r.next(40), r.next(40))
	}
}

// checkMany asks all addresses of a table before and after it was changed.
func checkMany(t *testing.T, l []api.Place, from, to int) {
	t.Helper()
	from, to = min(from, to), max(from, to)
	merged, _ := trace.Merge(l)
	cut, _ := trace.Cut(l, from, to)
	left, _ := trace.Cut(l, 0, from)
	right, _ := trace.Cut(l, to, api.MaxMemory)
	for _, m := range [][]api.Place{merged, cut, left, right} {
		if e := trace.Validate(m); e != api.OK {
			t.Fatal(l, m, e)
		}
	}
	for i, p := range merged {
		for _, q := range merged[:i] {
			if p.Var == q.Var && p.Kind == q.Kind && p.N == q.N && (p.From == q.To || p.To == q.From) {
				t.Error("not merged", l, merged)
			}
		}
	}
	for v := range 3 {
		holes, _ := trace.Holes(l, v, from, to)
		for at := range 45 {
			p, is, _ := trace.Find(l, v, at)
			q, has, _ := trace.Find(merged, v, at)
			if is != has || p.Kind != q.Kind || p.N != q.N {
				t.Error(l, merged, v, at)
			}
			part := cut
			switch {
			case at < from:
				part = left
			case at >= to:
				part = right
			}
			if q, has, _ := trace.Find(part, v, at); is != has || p.N != q.N || p.Kind != q.Kind {
				t.Error(l, part, v, at)
			}
			inHole := slices.ContainsFunc(holes, func(h [2]int) bool { return h[0] <= at && at < h[1] })
			if inHole != (!is && from <= at && at < to) {
				t.Error(l, holes, v, at)
			}
		}
	}
}
