package refine_test

import (
	"slices"
	"testing"

	"backstay/api"
	"backstay/fuzz"
	"backstay/refine"
	"backstay/run"
	"backstay/text"
)

func parse(t *testing.T, s string) api.Func {
	t.Helper()
	f, e := text.Parse(s)
	if e != api.OK {
		t.Fatalf("%q: %v", s, e)
	}
	return f
}

var (
	undefined = api.Outcome{Kind: api.Undefined}
	long      = api.Outcome{Kind: api.Long}
	poison    = api.Outcome{Ret: api.Value{Poison: true}, Mem: [][]int{{-1, 2}}}
	seven     = api.Outcome{Ret: api.Value{N: 7}, Mem: [][]int{{1, 2}}}
	eight     = api.Outcome{Ret: api.Value{N: 8}, Mem: [][]int{{1, 2}}}
	other     = api.Outcome{Ret: api.Value{N: 7}, Mem: [][]int{{1, 3}}}
	short     = api.Outcome{Ret: api.Value{N: 7}, Mem: [][]int{{1}}}
	none      = api.Outcome{Ret: api.Value{N: 7}}
	odd       = api.Outcome{Kind: 7}
)

// P6.1
func TestPermits(t *testing.T) {
	l := []api.Outcome{undefined, long, poison, seven, eight, other, short, none, odd}
	for i, s := range l {
		for j, u := range l {
			want := i == 0 || i == j && i != 8 || i == 2 && (j == 3 || j == 4)
			if is := refine.Permits(s, u); is != want {
				t.Error(s, u, is)
			}
		}
	}
	for _, c := range []struct {
		s, t []api.Outcome
		want bool
	}{
		{nil, nil, true},
		{nil, []api.Outcome{long}, false},
		{[]api.Outcome{long}, nil, true},
		{[]api.Outcome{long, seven}, []api.Outcome{seven}, true},
		{[]api.Outcome{seven}, []api.Outcome{long, seven}, false},
		{[]api.Outcome{poison}, []api.Outcome{seven, eight}, true},
		{[]api.Outcome{seven, eight}, []api.Outcome{poison}, false},
		{[]api.Outcome{long, undefined}, []api.Outcome{seven, odd}, true},
	} {
		if is := refine.PermitsAll(c.s, c.t); is != c.want {
			t.Error(c, is)
		}
	}
}

const (
	signed = "func 4 4 : 4 :\n0:\n2 = add.2 4 0 1\nret 2\n"
	plain  = "func 4 4 : 4 :\n0:\n2 = add 4 0 1\nret 2\n"
	any1   = "func : 1 :\n0:\n0 = any 1\nret 0\n"
	zero1  = "func : 1 :\n0:\n0 = const 1 #0\nret 0\n"
	large  = "func : 1 :\n0:\n0 = any 9\n1 = trunc 1 0\nret 1\n"
)

// P6.1: the order of errors.
func TestErrors(t *testing.T) {
	f, g, h := parse(t, plain), parse(t, any1), parse(t, large)
	in := api.Input{}
	for i, c := range []struct {
		f, g api.Func
		in   api.Input
		e    api.Errno
	}{
		{api.Func{}, api.Func{Blocks: [][]api.Inst{nil}}, in, api.ErrLarge},
		{api.Func{Blocks: [][]api.Inst{nil}}, api.Func{}, in, api.ErrRule},
		{f, api.Func{}, in, api.ErrLarge},
		{f, g, in, api.ErrFit},
		{f, f, in, api.ErrArg},
		{h, g, api.Input{Args: []uint32{1}}, api.ErrArg},
		{h, g, in, api.ErrLarge},
		{g, h, in, api.ErrLarge},
		{g, g, in, api.OK},
	} {
		_, e := refine.At(c.f, c.g, c.in)
		_, e2 := refine.Equal(c.f, c.g, c.in)
		if e != c.e || e2 != c.e {
			t.Error(i, e, e2)
		}
	}
	if _, _, e := refine.First(f, g); e != api.ErrFit {
		t.Error(e)
	}
	if _, _, e := refine.First(g, h); e != api.ErrLarge {
		t.Error(e)
	}
	if _, e := refine.Worst(h, in); e != api.ErrLarge {
		t.Error(e)
	}
	if _, e := refine.Worst(g, api.Input{Mem: [][]int{{0}}}); e != api.ErrArg {
		t.Error(e)
	}
	// The first input is refused, so that the error at the second one does not matter.
	s := parse(t, "func 1 : 1 :\n0:\n1 = const 1 #1\nbranch 0 @1 @2\n1:\n3 = any 9\nret 0\n2:\nret 1\n")
	u := parse(t, "func 1 : 1 :\n0:\nret 0\n")
	if n, is, e := refine.First(s, u); n != 0 || !is || e != api.OK {
		t.Error(n, is, e)
	}
	if _, _, e := refine.First(s, s); e != api.ErrLarge {
		t.Error(e)
	}
}

// P6.2
func TestFunctions(t *testing.T) {
	for _, c := range []struct {
		f, g  string
		first int
		is    bool
	}{{signed, plain, 0, false}, {plain, signed, 1*16 + 7, true}, {any1, zero1, 0, false}, {zero1, any1, 0, true}, {plain, plain, 0, false}} {
		f, g := parse(t, c.f), parse(t, c.g)
		n, is, e := refine.First(f, g)
		if n != c.first || is != c.is || e != api.OK {
			t.Error(c, n, is, e)
		}
		count, _ := refine.Inputs(f)
		for k := range count {
			in, _ := refine.Input(f, k)
			at, _ := refine.At(f, g, in)
			back, _ := refine.At(g, f, in)
			equal, _ := refine.Equal(f, g, in)
			if equal != (at && back) || !at && (!c.is || k < n) || k == n && at == c.is {
				t.Error(c, k, at, back, equal)
			}
		}
	}
}

func TestInputs(t *testing.T) {
	f := parse(t, "func 2 1 : 0 : 3\n0:\nret\n")
	for k, want := range [][]uint32{{0, 0}, {0, 1}, {1, 0}, {1, 1}, {2, 0}, {2, 1}, {3, 0}, {3, 1}} {
		in, e := refine.Input(f, k)
		if !slices.Equal(in.Args, want) || len(in.Mem) != 1 || !slices.Equal(in.Mem[0], []int{0, 0, 0}) || e != api.OK {
			t.Error(k, in, e)
		}
	}
	for _, k := range []int{-1, 8} {
		if in, e := refine.Input(f, k); e != api.ErrNone || in.Args != nil {
			t.Error(k, in, e)
		}
	}
	for _, c := range []struct {
		text string
		n    int
		e    api.Errno
	}{{plain, 256, api.OK}, {any1, 1, api.OK}, {"func 8 1 : 0 :\n0:\nret\n", 0, api.ErrLarge}, {"func 32 32 32 : 0 :\n0:\nret\n", 0, api.ErrLarge}, {"func 3 3 2 : 0 :\n0:\nret\n", 256, api.OK}} {
		f := parse(t, c.text)
		n, e := refine.Inputs(f)
		_, e2 := refine.Input(f, 0)
		_, _, e3 := refine.First(f, f)
		if n != c.n || e != c.e || e2 != c.e || e3 != c.e {
			t.Error(c, n, e, e2, e3)
		}
	}
	if _, e := refine.Inputs(api.Func{}); e != api.ErrLarge {
		t.Error(e)
	}
}

func TestWorst(t *testing.T) {
	for _, c := range []struct {
		text string
		byte int
		want int
	}{
		{"func : 1 : 1\n0:\n0 = any 1\nret 0\n", 0, 0},
		{"func : 1 : 1\n0:\n0 = any 1\nret 0\n", -1, 1},
		{"func : 1 : 1\n0:\n0 = poison 1\nret 0\n", 0, 1},
		{"func : 1 : 1\n0:\njump @1\n1:\njump @1\n", 0, 1},
		{"func : 1 : 1\n0:\n0 = any 1\nbranch 0 @1 @2\n1:\ntrap\n2:\nret 0\n", -1, 2},
	} {
		if n, e := refine.Worst(parse(t, c.text), api.Input{Mem: [][]int{{c.byte}}}); n != c.want || e != api.OK {
			t.Error(c, n, e)
		}
	}
}

// Each function permits itself.
func TestItself(t *testing.T) {
	for seed := range 300 {
		n := make([]int, 150)
		for i := range n {
			n[i] = (seed*7919 + i*i*31 + i*seed) * 2654435761 >> 7
		}
		f := fuzz.Make(n)
		if _, e := refine.Inputs(f); e != api.OK {
			continue
		}
		in, _ := refine.Input(f, 0)
		if _, e := run.All(f, in); e != api.OK {
			continue
		}
		if is, e := refine.Equal(f, f, in); !is || e != api.OK {
			t.Error(seed, is, e)
		}
	}
}
