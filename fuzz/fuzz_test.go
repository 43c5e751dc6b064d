package fuzz_test

import (
	"slices"
	"testing"

	"backstay/api"
	"backstay/flow"
	"backstay/fuzz"
	"backstay/ir"
	"backstay/refine"
	"backstay/run"
	"backstay/term"
	"backstay/text"
)

func parse(t *testing.T, s string) api.Func {
	t.Helper()
	f, e := text.Parse(s)
	if e != api.OK {
		t.Fatalf("%q: %v", s, e)
	}
	return f
}

func numbers(seed, n int) []int {
	l := make([]int, n)
	for i := range l {
		seed = seed*6364136223846793005 + 1442695040888963407
		l[i] = seed >> (seed & 31)
	}
	return l
}

// P25.1
func TestMake(t *testing.T) {
	blocks, ops := map[int]int{}, map[int]int{}
	for seed := range 3000 {
		l := numbers(seed, seed%260)
		f, g := fuzz.Make(l), fuzz.Straight(l)
		if e := ir.Validate(f); e != api.OK {
			t.Fatal(seed, f, e)
		}
		if is, e := ir.IsPure(g); !is || e != api.OK || len(g.Blocks) != 1 || g.Ret > 8 || len(g.Params) > 0 && slices.Max(g.Params) > 8 {
			t.Fatal(seed, g, e)
		}
		for _, x := range g.Blocks[0] {
			if x.Width > 8 {
				t.Error(seed, x)
			}
		}
		if u := fuzz.Terms(l); term.Validate(u) != api.OK || len(u) > 20 {
			t.Error(seed, u)
		}
		if !ir.Same(f, fuzz.Make(l)) || len(l) > 200 && !ir.Same(f, fuzz.Make(l[:200])) {
			t.Error(seed, "another function")
		}
		blocks[len(f.Blocks)]++
		for _, block := range f.Blocks {
			for _, x := range block {
				ops[x.Op]++
			}
		}
	}
	if len(blocks) < 4 || len(ops) != api.Trap+1 {
		t.Error("too much of the same", blocks, ops)
	}
	for _, f := range []api.Func{fuzz.Make(nil), fuzz.Straight(nil), fuzz.Make([]int{}), fuzz.Make([]int{0, 0})} {
		if len(f.Params) != 0 || f.Ret != 0 || len(f.Blocks) != 1 || ir.Validate(f) != api.OK {
			t.Error(f)
		}
	}
	if u := fuzz.Terms(nil); term.Validate(u) != api.OK {
		t.Error(u)
	}
	for _, n := range []int{-1 << 63, 1<<63 - 1, -1} {
		l := slices.Repeat([]int{n}, 300)
		if ir.Validate(fuzz.Make(l)) != api.OK || ir.Validate(fuzz.Straight(l)) != api.OK || term.Validate(fuzz.Terms(l)) != api.OK {
			t.Error(n)
		}
	}
}

func TestPool(t *testing.T) {
	a, b, c := numbers(1, 100), numbers(2, 100), numbers(3, 100)
	pool := fuzz.Pool([][]int{a, nil, b, a, {}, c, b})
	want := [][]int{a, nil, b, c}
	if len(pool) != 4 {
		t.Fatal(len(pool))
	}
	for i, l := range want {
		if !ir.Same(pool[i], fuzz.Make(l)) {
			t.Error(i, pool[i])
		}
	}
	if l := fuzz.Pool(nil); len(l) != 0 {
		t.Error(l)
	}
}

// P25.2
func TestInputs(t *testing.T) {
	f := parse(t, "func 8 1 32 : 0 : 3 8\n0:\nret\n")
	for _, n := range []int{0, 1, 64} {
		l, e := fuzz.Inputs(f, n)
		if len(l) != n || e != api.OK {
			t.Error(n, l, e)
		}
		for i, in := range l {
			if e := run.ValidateInput(f, in); e != api.OK {
				t.Error(in, e)
			}
			if i == 0 && (slices.Max(in.Args) != 0 || slices.Max(in.Mem[0]) != 0 || slices.Min(in.Mem[1]) != 0) {
				t.Error(in)
			}
		}
	}
	for _, n := range []int{-1, 65} {
		if l, e := fuzz.Inputs(f, n); l != nil || e != api.ErrArg {
			t.Error(n, l, e)
		}
	}
	if _, e := fuzz.Inputs(api.Func{}, -1); e != api.ErrLarge {
		t.Error(e)
	}
}

// differs counts the instructions in which two functions differ.
func differs(f, g api.Func) int {
	n := 0
	for b, block := range f.Blocks {
		for i, x := range block {
			y := g.Blocks[b][i]
			if x.Op != y.Op || x.Width != y.Width || x.Flags != y.Flags || x.Imm != y.Imm || !slices.Equal(x.Args, y.Args) || !slices.Equal(x.To, y.To) {
				n++
			}
		}
	}
	return n
}

func TestMutate(t *testing.T) {
	for seed := range 700 {
		f := fuzz.Make(numbers(seed, 160))
		for _, n := range []int{seed, -seed, seed * 1000003, -1 << 63} {
			g, is, e := fuzz.Mutate(f, n)
			if e != api.OK || !is && g.Blocks != nil {
				t.Error(seed, n, is, e)
			}
			if !is {
				continue
			}
			if alike, e := ir.Alike(f, g); !alike || e != api.OK || ir.Same(f, g) || differs(f, g) != 1 {
				t.Error(seed, n, f, g)
			}
		}
	}
	for _, s := range []string{"func 8 8 : 8 :\n0:\n2 = add 8 0 1\nret 2\n", "func : 0 :\n0:\n0 = const 1 #0\nret\n", "func : 0 :\n0:\n0 = const 32 #4294967295\nret\n", "func 1 1 : 0 :\n0:\n2 = add.3 1 0 1\nret\n"} {
		for n := range 300 {
			if g, is, e := fuzz.Mutate(parse(t, s), n); !is || e != api.OK || ir.Validate(g) != api.OK {
				t.Error(s, n, is, e)
			}
		}
	}
	if g, is, e := fuzz.Mutate(parse(t, "func : 0 :\n0:\nret\n"), 5); is || g.Blocks != nil || e != api.OK {
		t.Error(g, is, e)
	}
	if _, _, e := fuzz.Mutate(api.Func{}, 0); e != api.ErrLarge {
		t.Error(e)
	}
}

func count(f api.Func) int {
	n := 0
	for _, block := range f.Blocks {
		n += len(block)
	}
	return n
}

// isLoose tells whether a reached block has an instruction that nobody uses, and that may be left out.
func isLoose(f api.Func) bool {
	g, _ := ir.Graph(f)
	seen, _ := flow.Reached(g)
	v := len(f.Params)
	for b, block := range f.Blocks {
		for _, x := range block {
			users, _ := ir.Users(f, v)
			divides := x.Op >= api.UDiv && x.Op <= api.SRem
			if x.Width > 0 && len(users) == 0 && !divides && x.Op != api.Load && slices.Contains(seen, b) {
				return true
			}
			v++
		}
	}
	return false
}

// P25.3
func TestReduceAndNarrow(t *testing.T) {
	fewer := 0
	for seed := range 700 {
		f := fuzz.Make(numbers(seed, 160))
		inputs, _ := fuzz.Inputs(f, 2)
		in := inputs[1]
		want, e := run.All(f, in)
		g, e2 := fuzz.Reduce(f, in)
		narrow, e3 := fuzz.Narrow(f, in)
		if e2 != e || e3 != e {
			t.Fatal(seed, e, e2, e3)
		}
		if e != api.OK {
			continue
		}
		got, e := run.All(g, in)
		if e != api.OK || !slices.EqualFunc(got, want, run.SameOutcome) || count(g) > count(f) || len(g.Blocks) > len(f.Blocks) {
			t.Error(seed, f, g, e)
		}
		if alike, _ := ir.Alike(f, g); !alike {
			t.Error(seed, g)
		}
		isLong := slices.ContainsFunc(want, func(o api.Outcome) bool { return o.Kind == api.Long })
		if isLoose(f) && !isLong && count(g) >= count(f) {
			t.Error(seed, f, g)
		}
		if count(g) < count(f) {
			fewer++
		}
		again, _ := fuzz.Reduce(g, in)
		if count(again) > count(g) {
			t.Error(seed, g, again)
		}
		got, e = run.All(f, narrow)
		if e != api.OK || !slices.EqualFunc(got, want, run.SameOutcome) {
			t.Error(seed, in, narrow, e)
		}
		for i, x := range narrow.Args {
			if x > in.Args[i] {
				t.Error(seed, in, narrow)
			}
		}
		for s, slot := range narrow.Mem {
			for i, b := range slot {
				if b != 0 && b != in.Mem[s][i] {
					t.Error(seed, in, narrow)
				}
			}
		}
	}
	if fewer < 100 {
		t.Error(fewer)
	}
}

func TestReduceExamples(t *testing.T) {
	f := parse(t, "func 8 8 : 8 :\n0:\n2 = add 8 0 1\n3 = mul 8 0 1\nret 3\n")
	g, e := fuzz.Reduce(f, api.Input{Args: []uint32{2, 3}})
	if s, _ := text.Print(g); s != "func 8 8 : 8 :\n0:\n2 = mul 8 0 1\nret 2\n" || e != api.OK {
		t.Error(s, e)
	}
	if _, e := fuzz.Reduce(f, api.Input{}); e != api.ErrArg {
		t.Error(e)
	}
	if _, e := fuzz.Narrow(f, api.Input{}); e != api.ErrArg {
		t.Error(e)
	}
	in, e := fuzz.Narrow(parse(t, "func 8 8 : 1 : 2\n0:\n2 = const 8 #100\n3 = cmp 1 #5 0 2\nret 3\n"), api.Input{Args: []uint32{200, 77}, Mem: [][]int{{5, -1}}})
	if e != api.OK || in.Args[0] != 127 || in.Args[1] != 0 || !slices.Equal(in.Mem[0], []int{5, -1}) {
		t.Error(in, e)
	}
}

func TestCaught(t *testing.T) {
	plain := parse(t, "func 4 4 : 4 :\n0:\n2 = add 4 0 1\nret 2\n")
	signed := parse(t, "func 4 4 : 4 :\n0:\n2 = add.2 4 0 1\nret 2\n")
	for _, c := range [][2]api.Func{{plain, signed}, {signed, plain}, {plain, {}}, {plain, plain}} {
		n, is, e := fuzz.Caught(c[0], c[1])
		m, was, f := refine.First(c[0], c[1])
		if n != m || is != was || e != f {
			t.Error(n, is, e, m, was, f)
		}
	}
	for n := range 60 {
		g, _, _ := fuzz.Mutate(plain, n)
		_, is, _ := fuzz.Caught(plain, g)
		permitted := true
		for k := range 256 {
			in, _ := refine.Input(plain, k)
			at, e := refine.At(plain, g, in)
			permitted = permitted && at && e == api.OK
		}
		if is == permitted {
			t.Error(n, g, is)
		}
	}
}
