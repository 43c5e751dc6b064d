package blast_test

import (
	"slices"
	"testing"

	"backstay/api"
	"backstay/blast"
	"backstay/fuzz"
	"backstay/proof"
	"backstay/term"
)

func node(op, w int, imm uint32, args ...int) api.Node {
	return api.Node{Op: op, Width: w, Imm: imm, Args: args}
}

func v(i uint32, w int) api.Node {
	return node(api.Var, w, i)
}

func c(n uint32, w int) api.Node {
	return node(api.Const, w, n)
}

func numbers(seed int) []int {
	l := make([]int, 120)
	for i := range l {
		seed = seed*6364136223846793005 + 1442695040888963407
		l[i] = seed >> 33
	}
	return l
}

// agrees checks P10.2 in one environment.
func agrees(t *testing.T, u []api.Node, env []uint32) {
	t.Helper()
	n, clauses, vars, root, e := blast.Clauses(u)
	if e == api.ErrLarge {
		return
	}
	widths, _ := term.Widths(u)
	var given []int
	for i, bits := range vars {
		if len(bits) != widths[i] {
			t.Fatal(u, vars, widths)
		}
		for k, l := range bits {
			if env[i]>>k&1 == 0 {
				l = -l
			}
			given = append(given, l)
		}
	}
	l, conflict, e := proof.Units(n, clauses, given)
	if conflict || len(l) != n || e != api.OK {
		t.Fatal(u, env, conflict, len(l), n, e)
	}
	got := uint32(0)
	for k := range u[len(u)-1].Width {
		if slices.Contains(l, root+k) {
			got |= 1 << k
		}
	}
	if want, _ := term.Eval(u, env); got != want {
		t.Error(u, env, got, want)
	}
}

// P10.2: each operation, for all words.
func TestOperations(t *testing.T) {
	for op := api.Add; op <= api.AShr; op++ {
		for w := 1; w <= 5; w++ {
			u := []api.Node{v(0, w), v(1, w), node(op, w, 0, 0, 1)}
			for a := range uint32(1) << w {
				for b := range uint32(1) << w {
					if w < 4 || (a*5+b*3)%4 == 0 || a > 1<<w-3 || b > 1<<w-3 {
						agrees(t, u, []uint32{a, b, 0, 0})
					}
				}
			}
		}
		agrees(t, []api.Node{v(3, 32), c(7, 32), node(op, 32, 0, 0, 1)}, []uint32{0, 0, 0, 1<<32 - 5})
	}
	for pred := range uint32(10) {
		for a := range uint32(8) {
			for b := range uint32(8) {
				agrees(t, []api.Node{v(0, 3), v(1, 3), node(api.Cmp, 1, pred, 0, 1)}, []uint32{a, b, 0, 0})
			}
		}
	}
}

func TestClausesOfMany(t *testing.T) {
	for seed := range 500 {
		u := fuzz.Terms(numbers(seed))
		widths, _ := term.Widths(u)
		for k := range 3 {
			env := make([]uint32, api.MaxVars)
			for i, w := range widths {
				env[i] = uint32((seed+k*77)*(i+1)*2654435761>>9) & (1<<w - 1)
			}
			agrees(t, u, env)
		}
	}
}

// P10.1 and the limits of P10.2
func TestErrors(t *testing.T) {
	wide := []api.Node{v(0, 8)}
	broken := []api.Node{v(9, 8)}
	var large []api.Node
	for i := range 20 {
		large = append(large, v(uint32(i%4), 32))
	}
	for i := range 20 {
		large = append(large, node(api.Mul, 32, 0, i, 19+i))
	}
	claim := append(slices.Clone(large), node(api.Cmp, 1, 0, 0, 39))
	for i, x := range []struct {
		t        []api.Node
		any, one api.Errno
	}{
		{nil, api.ErrLarge, api.ErrLarge},
		{broken, api.ErrArg, api.ErrArg},
		{wide, api.OK, api.ErrType},
		{large, api.ErrLarge, api.ErrType},
		{claim, api.ErrLarge, api.ErrLarge},
	} {
		_, _, _, _, e1 := blast.Clauses(x.t)
		_, e2 := blast.Environments(x.t)
		_, is, e3 := blast.Find(x.t)
		l, is2, e4 := blast.Prove(x.t)
		e5 := blast.Check(x.t, nil)
		_, e6 := blast.Count(x.t)
		if e1 != x.any || e2 != x.any || e3 != x.one || e4 != x.one || e5 != x.one || e6 != x.one || is || is2 || l != nil {
			t.Error(i, e1, e2, e3, e4, e5, e6)
		}
	}
	if _, e := blast.Claim(wide, []api.Node{v(0, 4)}); e != api.ErrType {
		t.Error(e)
	}
	if _, e := blast.Claim(wide, broken); e != api.ErrArg {
		t.Error(e)
	}
	if _, e := blast.Equal(wide, []api.Node{v(0, 4), node(api.ZExt, 8, 0, 0)}); e != api.ErrRule {
		t.Error(e)
	}
	for i, x := range []struct {
		t []api.Node
		n int
		e api.Errno
	}{
		{[]api.Node{v(0, 8), v(1, 8)}, 65536, api.OK},
		{[]api.Node{v(0, 8), v(1, 8), v(2, 1)}, 0, api.ErrLarge},
		{[]api.Node{v(0, 32), v(1, 32), v(2, 32)}, 0, api.ErrLarge},
		{[]api.Node{c(1, 8)}, 1, api.OK},
	} {
		if n, e := blast.Environments(x.t); n != x.n || e != x.e {
			t.Error(i, n, e)
		}
	}
}

// P10.3 and P10.4
func TestExamples(t *testing.T) {
	twice := []api.Node{v(0, 4), node(api.Add, 4, 0, 0, 0)}
	shifted := []api.Node{v(0, 4), c(1, 4), node(api.Shl, 4, 0, 0, 1)}
	claim, e := blast.Claim(twice, shifted)
	if e != api.OK {
		t.Fatal(e)
	}
	l, is, e := blast.Prove(claim)
	if !is || e != api.OK || blast.Check(claim, l) != api.OK {
		t.Error(l, is, e)
	}
	if is, e := blast.Equal(twice, shifted); !is || e != api.OK {
		t.Error(is, e)
	}
	if is, e := blast.Equal(twice, []api.Node{v(0, 4)}); is || e != api.OK {
		t.Error(is, e)
	}
	if e := blast.Check(claim, l[:len(l)-1]); e != api.ErrProof {
		t.Error(e)
	}
	if e := blast.Check(claim, append(slices.Clone(l), []int{0})); e != api.ErrArg {
		t.Error(e)
	}
	below := []api.Node{v(2, 2), c(3, 2), node(api.Cmp, 1, api.Ult, 0, 1)}
	n, _ := blast.Count(below)
	if all, _ := blast.Environments(below); n != 3 || all != 4 {
		t.Error(n, all)
	}
	square := []api.Node{v(1, 3), node(api.Mul, 3, 0, 0, 0), c(4, 3), node(api.Cmp, 1, api.Eq, 1, 2)}
	env, is, e := blast.Find(square)
	if !is || e != api.OK || env[1] != 2 && env[1] != 6 || env[0] != 0 || len(env) != 4 {
		t.Error(env, is, e)
	}
}

func TestClaimsOfMany(t *testing.T) {
	proved, claims := 0, 0
	for seed := range 3000 {
		u := fuzz.Terms(numbers(seed))
		if n, e := blast.Environments(u); u[len(u)-1].Width != 1 || e != api.OK || n > 4096 {
			continue
		}
		claims++
		n, _ := blast.Count(u)
		all, _ := blast.Environments(u)
		env, is, e := blast.Find(u)
		if e != api.OK || is != (n > 0) {
			t.Error(seed, u, n, is, e)
		}
		if value, _ := term.Eval(u, env); is && value != 1 {
			t.Error(seed, u, env)
		}
		l, is, e := blast.Prove(u)
		if e != api.OK || is != (n == all) {
			t.Error(seed, u, n, all, is, e)
		}
		if is {
			proved++
			if e := blast.Check(u, l); e != api.OK {
				t.Error(seed, u, e)
			}
		} else if e := blast.Check(u, [][]int{{}}); e != api.ErrProof {
			t.Error(seed, u, e)
		}
	}
	if proved < 10 || claims < 100 {
		t.Error("too few claims", proved, claims)
	}
}

// Products are the hardest.
func TestEquations(t *testing.T) {
	for w := 1; w <= 4; w++ {
		left := []api.Node{v(0, w), v(1, w), node(api.Add, w, 0, 0, 1), node(api.Sub, w, 0, 0, 1), node(api.Mul, w, 0, 2, 3)}
		right := []api.Node{v(0, w), v(1, w), node(api.Mul, w, 0, 0, 0), node(api.Mul, w, 0, 1, 1), node(api.Sub, w, 0, 2, 3)}
		if is, e := blast.Equal(left, right); !is || e != api.OK {
			t.Error(w, is, e)
		}
	}
	for _, w := range []int{8, 16, 32} {
		left := []api.Node{v(0, w), v(1, w), node(api.Mul, w, 0, 0, 1)}
		right := []api.Node{v(0, w), v(1, w), node(api.Mul, w, 0, 1, 0)}
		if is, e := blast.Equal(left, right); !is || e != api.OK {
			t.Error(w, is, e)
		}
	}
}
