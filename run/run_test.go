package run_test

import (
	"slices"
	"testing"

	"backstay/api"
	"backstay/fuzz"
	"backstay/run"
	"backstay/text"
)

func parse(t *testing.T, s string) api.Func {
	t.Helper()
	f, e := text.Parse(s)
	if e != api.OK {
		t.Fatalf("%q: %v", s, e)
	}
	return f
}

func number(n uint32) api.Outcome {
	return api.Outcome{Ret: api.Value{N: n}}
}

var (
	poison    = api.Outcome{Ret: api.Value{Poison: true}}
	undefined = api.Outcome{Kind: api.Undefined}
	long      = api.Outcome{Kind: api.Long}
)

func same(a, b []api.Outcome) bool {
	return slices.EqualFunc(a, b, run.SameOutcome)
}

// P5.1
func TestValidateInput(t *testing.T) {
	f := parse(t, "func 4 32 : 0 : 2 1\n0:\nret\n")
	good := func() api.Input {
		return api.Input{Args: []uint32{15, 1<<32 - 1}, Mem: [][]int{{-1, 255}, {0}}}
	}
	if e := run.ValidateInput(f, good()); e != api.OK {
		t.Error(e)
	}
	for i, change := range []func(in *api.Input){
		func(in *api.Input) { in.Args[0] = 16 },
		func(in *api.Input) { in.Args = in.Args[:1] },
		func(in *api.Input) { in.Args = append(in.Args, 0) },
		func(in *api.Input) { in.Mem = in.Mem[:1] },
		func(in *api.Input) { in.Mem[0] = in.Mem[0][:1] },
		func(in *api.Input) { in.Mem[1][0] = -2 },
		func(in *api.Input) { in.Mem[1][0] = 256 },
	} {
		in := good()
		change(&in)
		_, _, e1 := run.Run(f, in, nil)
		_, e2 := run.All(f, in)
		_, e3 := run.Trace(f, in, nil)
		_, e4 := run.Steps(f, in, nil)
		_, _, e5 := run.Value(f, in, nil, 99)
		_, e6 := run.IsSure(f, in)
		for _, e := range []api.Errno{run.ValidateInput(f, in), e1, e2, e3, e4, e5, e6} {
			if e != api.ErrArg {
				t.Error(i, e)
			}
		}
	}
	if _, e := run.All(api.Func{}, api.Input{}); e != api.ErrLarge {
		t.Error(e)
	}
}

// P5.2: what each instruction does.
func TestInstructions(t *testing.T) {
	const head = "func 8 8 1 : 8 :\n0:\n"
	for _, c := range []struct {
		body string
		a, b uint32
		want api.Outcome
	}{
		{"3 = add.2 8 0 1\nret 3\n", 127, 1, poison},
		{"3 = add.2 8 0 1\nret 3\n", 126, 1, number(127)},
		{"3 = add.1 8 0 1\nret 3\n", 127, 1, number(128)},
		{"3 = add 8 0 1\nret 3\n", 255, 2, number(1)},
		{"3 = shl 8 0 1\nret 3\n", 1, 8, poison},
		{"3 = shl 8 0 1\nret 3\n", 1, 7, number(128)},
		{"3 = udiv.4 8 0 1\nret 3\n", 7, 2, poison},
		{"3 = udiv 8 0 1\nret 3\n", 7, 0, undefined},
		{"3 = srem 8 0 1\nret 3\n", 128, 255, undefined},
		{"3 = sdiv 8 0 1\nret 3\n", 129, 255, number(127)},
		{"3 = poison 8\n4 = udiv 8 3 1\nret 4\n", 0, 2, poison},
		{"3 = poison 8\n4 = udiv 8 0 3\nret 4\n", 0, 2, undefined},
		{"3 = poison 8\n4 = sdiv 8 3 1\nret 4\n", 0, 255, undefined},
		{"3 = poison 8\n4 = sdiv 8 3 1\nret 4\n", 0, 254, poison},
		{"3 = poison 8\n4 = udiv 8 3 1\nret 4\n", 0, 255, poison},
		{"3 = cmp 1 #6 0 1\n4 = sext 8 3\nret 4\n", 128, 1, number(255)},
		{"3 = poison 8\n4 = cmp 1 #0 3 3\n5 = zext 8 4\nret 5\n", 0, 0, poison},
		{"3 = poison 8\n4 = select 8 2 0 3\nret 4\n", 5, 0, poison},
		{"3 = poison 8\n4 = select 8 2 3 1\nret 4\n", 5, 6, number(6)},
		{"3 = poison 1\n4 = select 8 3 1 1\nret 4\n", 5, 6, poison},
		{"3 = padd 8 #4 0 1\nret 3\n", 0x1f, 1, number(0x10)},
		{"3 = psub 8 #4 0 1\nret 3\n", 0x10, 1, number(0x1f)},
		{"3 = freeze 8 0\nret 3\n", 9, 1, number(9)},
		{"3 = poison 8\nret 3\n", 9, 1, poison},
		{"3 = poison 8\n4 = mul 8 3 0\nret 4\n", 0, 1, poison},
		{"3 = poison 1\nbranch 3 @1 @2\n1:\nret 0\n2:\nret 1\n", 9, 1, undefined},
		{"branch 2 @1 @2\n1:\nret 0\n2:\nret 1\n", 9, 1, number(1)},
		{"3 = cmp 1 #0 0 0\nbranch 3 @1 @2\n1:\nret 0\n2:\nret 1\n", 9, 1, number(9)},
		{"trap\n", 9, 1, undefined},
		{"jump @1\n1:\njump @1\n", 9, 1, long},
		{"3 = trunc 4 0\n4 = sext 8 3\nret 4\n", 0x5a, 1, number(0xfa)},
	} {
		f := parse(t, head+c.body)
		out, n, e := run.Run(f, api.Input{Args: []uint32{c.a, c.b, 0}}, nil)
		if !run.SameOutcome(out, c.want) || n != 0 || e != api.OK {
			t.Error(c, out, n, e)
		}
	}
}

// P5.2: slots.
func TestMemory(t *testing.T) {
	const head = "func 8 32 : 32 : 8 4\n0:\n2 = addr 33 #0\n3 = gep 33 2 0\n"
	const inside = "func 8 32 : 32 : 8 4\n0:\n2 = addr 33 #0\n3 = gep.8 33 2 0\n"
	bytes := [][]int{{1, 2, 3, -1, 5, 6, 7, 8}, {9, 9, 9, 9}}
	done := func(v api.Value, first ...int) api.Outcome {
		return api.Outcome{Ret: v, Mem: [][]int{append(first, bytes[0][len(first):]...), bytes[1]}}
	}
	for _, c := range []struct {
		text string
		at   uint32
		want api.Outcome
	}{
		{head + "4 = load 16 3\n5 = zext 32 4\nret 5\n", 1, done(api.Value{N: 0x302})},
		{head + "4 = load 16 3\n5 = zext 32 4\nret 5\n", 2, done(api.Value{Poison: true})},
		{head + "4 = load 16 3\n5 = zext 32 4\nret 5\n", 6, done(api.Value{N: 0x807})},
		{head + "4 = load 16 3\n5 = zext 32 4\nret 5\n", 7, undefined},
		{head + "4 = load 16 3\n5 = zext 32 4\nret 5\n", 255, undefined},
		{head + "4 = load 32 3\nret 4\n", 4, done(api.Value{N: 0x08070605})},
		{head + "store 3 1\nret 1\n", 0, done(api.Value{N: 0x04030201}, 1, 2, 3, 4)},
		{head + "4 = poison 16\nstore 3 4\nret 1\n", 0, done(api.Value{N: 0x04030201}, -1, -1)},
		{head + "store 3 0\nret 1\n", 8, undefined},
		{inside + "4 = load 8 3\n5 = zext 32 4\nret 5\n", 255, undefined},
		{inside + "4 = const 8 #255\n5 = gep.8 33 3 4\n6 = load 8 5\n7 = zext 32 6\nret 7\n", 8, done(api.Value{N: 8})},
		{inside + "4 = const 8 #255\n5 = gep.8 33 3 4\n6 = load 8 5\n7 = zext 32 6\nret 7\n", 9, undefined},
		{head + "4 = const 8 #255\n5 = gep.8 33 3 4\n6 = load 8 5\n7 = zext 32 6\nret 7\n", 9, undefined},
		{head + "4 = const 8 #254\n5 = gep.8 33 3 4\n6 = load 8 5\n7 = zext 32 6\nret 7\n", 9, done(api.Value{N: 8})},
	} {
		f := parse(t, c.text)
		in := api.Input{Args: []uint32{c.at, 0x04030201}, Mem: bytes}
		if out, _, e := run.Run(f, in, nil); !run.SameOutcome(out, c.want) || e != api.OK {
			t.Error(c.text, c.at, out, e)
		}
	}
	if bytes[0][3] != -1 {
		t.Error("the input was changed")
	}
}

const counting = "func 8 : 8 :\n0:\n1 = const 8 #0\n2 = const 8 #1\njump @1\n1:\n4 = phi 8 1 7 @0 @2\n5 = cmp 1 #2 4 0\nbranch 5 @2 @3\n2:\n7 = add 8 4 2\njump @1\n3:\nret 4\n"

// P5.2: a ring of 5 instructions, behind 3 and before 4.
func TestRuns(t *testing.T) {
	f := parse(t, counting)
	in := func(n uint32) api.Input { return api.Input{Args: []uint32{n}} }
	if l, e := run.Trace(f, in(2), nil); !slices.Equal(l, []int{0, 1, 2, 1, 2, 1, 3}) || e != api.OK {
		t.Error(l, e)
	}
	for _, c := range []struct {
		n     uint32
		steps int
		want  api.Outcome
	}{{0, 7, number(0)}, {2, 17, number(2)}, {78, 397, number(78)}, {79, 400, long}, {255, 400, long}} {
		out, _, _ := run.Run(f, in(c.n), nil)
		if n, e := run.Steps(f, in(c.n), nil); n != c.steps || !run.SameOutcome(out, c.want) || e != api.OK {
			t.Error(c, n, out, e)
		}
	}
	for v, want := range map[int]uint32{0: 2, 1: 0, 4: 2, 5: 0, 7: 2} {
		if x, is, e := run.Value(f, in(2), nil, v); x != (api.Value{N: want}) || !is || e != api.OK {
			t.Error(v, x, is, e)
		}
	}
	if x, is, e := run.Value(f, in(0), nil, 7); x != (api.Value{}) || is || e != api.OK {
		t.Error(x, is, e)
	}
	if _, is, _ := run.Value(f, in(0), nil, 3); is {
		t.Error("a jump has no value")
	}
	for _, v := range []int{-1, 10} {
		if _, _, e := run.Value(f, in(0), nil, v); e != api.ErrNone {
			t.Error(v, e)
		}
	}
	g := parse(t, "func : 0 :\n0:\n0 = const 8 #7\ntrap\n")
	if n, _ := run.Steps(g, api.Input{}, nil); n != 2 {
		t.Error("what is undefined is counted", n)
	}
}

// P5.2: Phis read before they write; a run may become Long among them.
func TestPhis(t *testing.T) {
	f := parse(t, "func 8 8 : 8 :\n0:\njump @1\n1:\n3 = phi 8 0 4 @0 @1\n4 = phi 8 1 3 @0 @1\njump @1\n")
	in := api.Input{Args: []uint32{5, 6}}
	// 1 + 133*3 = 400: the last Jump is the last one; the Phis of the time 133 are executed.
	x, _, _ := run.Value(f, in, nil, 3)
	y, _, _ := run.Value(f, in, nil, 4)
	if x.N != 5 || y.N != 6 {
		t.Error(x, y)
	}
	g := parse(t, "func 8 8 : 8 :\n0:\n2 = const 8 #0\n3 = const 8 #0\njump @1\n1:\n5 = phi 8 0 6 @0 @1\n6 = phi 8 1 5 @0 @1\njump @1\n")
	// 3 + 132*3 = 399: of the Phis of the time 133, just the first one is executed.
	x, _, _ = run.Value(g, in, nil, 5)
	y, _, _ = run.Value(g, in, nil, 6)
	if x.N != 5 || y.N != 5 {
		t.Error(x, y)
	}
}

// P5.2 and P5.3: choices.
func TestChoices(t *testing.T) {
	f := parse(t, "func : 8 :\n0:\n0 = any 2\n1 = poison 2\n2 = freeze 2 1\n3 = zext 8 0\n4 = zext 8 2\n5 = const 8 #4\n6 = mul 8 3 5\n7 = add 8 6 4\nret 7\n")
	for _, c := range []struct {
		picks []uint32
		want  uint32
	}{{nil, 0}, {[]uint32{1}, 4}, {[]uint32{7, 6, 5}, 14}, {[]uint32{0, 3}, 3}} {
		if out, n, _ := run.Run(f, api.Input{}, c.picks); out.Ret.N != c.want || n != 2 {
			t.Error(c, out, n)
		}
	}
	l, e := run.All(f, api.Input{})
	if len(l) != 16 || e != api.OK {
		t.Error(l, e)
	}
	for i, out := range l {
		if out.Ret.N != uint32(i) {
			t.Error(i, out)
		}
	}
	for _, c := range []struct {
		text string
		n    int
		e    api.Errno
	}{
		{"func : 8 :\n0:\n0 = any 8\nret 0\n", 256, api.OK},
		{"func : 8 :\n0:\n0 = any 8\n1 = any 1\nret 0\n", 0, api.ErrLarge},
		{"func : 0 :\n0:\n0 = any 9\nret\n", 0, api.ErrLarge},
		{"func : 0 :\n0:\n0 = any 8\nret\n", 1, api.OK},
		{"func : 0 :\n0:\njump @1\n1:\n1 = any 1\njump @1\n", 0, api.ErrLarge},
		{"func : 0 :\n0:\n0 = any 1\nbranch 0 @1 @2\n1:\njump @1\n2:\ntrap\n", 2, api.OK},
	} {
		if l, e := run.All(parse(t, c.text), api.Input{}); len(l) != c.n || e != c.e {
			t.Error(c, l, e)
		}
	}
	g := parse(t, "func : 0 :\n0:\n0 = any 1\nbranch 0 @1 @2\n1:\njump @1\n2:\ntrap\n")
	if l, _ := run.All(g, api.Input{}); !same(l, []api.Outcome{undefined, long}) {
		t.Error(l)
	}
}

// P5.3
func TestIsSure(t *testing.T) {
	for _, c := range []struct {
		text string
		byte int
		want bool
		e    api.Errno
	}{
		{"func : 8 : 1\n0:\n0 = const 8 #3\nret 0\n", 0, true, api.OK},
		{"func : 8 : 1\n0:\n0 = const 8 #3\nret 0\n", -1, false, api.OK},
		{"func : 8 : 1\n0:\n0 = poison 8\nret 0\n", 0, false, api.OK},
		{"func : 8 : 1\n0:\n0 = any 8\nret 0\n", 0, false, api.OK},
		{"func : 0 : 1\n0:\n0 = any 8\nret\n", 0, true, api.OK},
		{"func : 0 : 1\n0:\n0 = any 9\nret\n", 0, false, api.ErrLarge},
		{"func : 0 : 1\n0:\ntrap\n", 0, false, api.OK},
	} {
		if is, e := run.IsSure(parse(t, c.text), api.Input{Mem: [][]int{{c.byte}}}); is != c.want || e != c.e {
			t.Error(c, is, e)
		}
	}
}

// P5.3: a list in ascending order.
func TestOrder(t *testing.T) {
	l := []api.Outcome{
		{Kind: -1},
		{},
		{Mem: [][]int{{}}},
		{Mem: [][]int{{-1}}},
		{Mem: [][]int{{0, 1}}},
		{Mem: [][]int{{0, 1}, {0}}},
		{Mem: [][]int{{1}}},
		number(7),
		{Ret: api.Value{Slot: 1}},
		poison,
		undefined,
		long,
	}
	for i, a := range l {
		for j, b := range l {
			if run.Before(a, b) != (i < j) || run.SameOutcome(a, b) != (i == j) {
				t.Error(a, b)
			}
		}
	}
	if !run.SameOutcome(api.Outcome{Mem: [][]int{nil}}, api.Outcome{Mem: [][]int{{}}}) {
		t.Error("nil and empty are one value")
	}
}

// P5.3: each run has one of all outcomes.
func TestEachRunIsOneOfAll(t *testing.T) {
	for seed := range 600 {
		n := make([]int, 150)
		for i := range n {
			n[i] = (seed*7919 + i*i*31 + i*seed) >> 1 * 2654435761 >> 7
		}
		f := fuzz.Make(n)
		in := api.Input{}
		for _, w := range f.Params {
			in.Args = append(in.Args, uint32(seed)&(1<<w-1))
		}
		for _, size := range f.Slots {
			in.Mem = append(in.Mem, make([]int, size))
		}
		l, e := run.All(f, in)
		if e == api.ErrLarge {
			continue
		}
		if e != api.OK || len(l) == 0 || !slices.IsSortedFunc(l, func(a, b api.Outcome) int {
			if run.Before(a, b) {
				return -1
			}
			return 1
		}) {
			t.Fatal(seed, l, e)
		}
		for k := range 6 {
			out, _, _ := run.Run(f, in, []uint32{uint32(k), uint32(seed), uint32(k * seed)})
			if !slices.ContainsFunc(l, func(o api.Outcome) bool { return run.SameOutcome(o, out) }) {
				t.Error(seed, f, l, out)
			}
		}
	}
}
