package term_test

import (
	"slices"
	"testing"

	"backstay/api"
	"backstay/bits"
	"backstay/fuzz"
	"backstay/pool"
	"backstay/term"
)

func node(op, w int, imm uint32, args ...int) api.Node {
	return api.Node{Op: op, Width: w, Imm: imm, Args: args}
}

func v(i uint32, w int) api.Node {
	return node(api.Var, w, i)
}

func c(n uint32, w int) api.Node {
	return node(api.Const, w, n)
}

// increment is v0 + 1 of width 8, with a node that is not needed.
func increment() []api.Node {
	return []api.Node{v(1, 4), v(0, 8), c(1, 8), c(1, 8), node(api.Add, 8, 0, 1, 3)}
}

func numbers(seed int) []int {
	l := make([]int, 120)
	for i := range l {
		seed = seed*6364136223846793005 + 1442695040888963407
		l[i] = seed >> 33
	}
	return l
}

func environment(t []api.Node, seed int) []uint32 {
	l, _ := term.Widths(t)
	env := make([]uint32, api.MaxVars)
	for i, w := range l {
		seed = seed*6364136223846793005 + 1442695040888963407
		env[i] = uint32(seed>>20) & (1<<w - 1)
	}
	return env
}

// P7.1
func TestValidate(t *testing.T) {
	for i, x := range []struct {
		t []api.Node
		e api.Errno
	}{
		{nil, api.ErrLarge},
		{slices.Repeat([]api.Node{c(0, 1)}, 300), api.OK},
		{slices.Repeat([]api.Node{c(0, 1)}, 301), api.ErrLarge},
		{increment(), api.OK},
		{[]api.Node{c(256, 8)}, api.ErrArg},
		{[]api.Node{c(0, 33)}, api.ErrArg},
		{[]api.Node{c(0, 0)}, api.ErrArg},
		{[]api.Node{v(4, 8)}, api.ErrArg},
		{[]api.Node{v(3, 32)}, api.OK},
		{[]api.Node{{Op: api.Var, Width: 8, Flags: 1}}, api.ErrArg},
		{[]api.Node{v(0, 8), {Op: api.Add, Width: 8, Flags: 1, Args: []int{0, 0}}}, api.ErrArg},
		{[]api.Node{v(0, 8), node(api.Add, 8, 0, 0)}, api.ErrArg},
		{[]api.Node{v(0, 8), node(api.Add, 8, 0, 0, 1)}, api.ErrArg},
		{[]api.Node{v(0, 8), node(api.Add, 8, 0, 0, -1)}, api.ErrArg},
		{[]api.Node{v(0, 8), node(api.Add, 8, 1, 0, 0)}, api.ErrArg},
		{[]api.Node{v(0, 8), node(api.Add, 4, 0, 0, 0)}, api.ErrType},
		{[]api.Node{v(0, 8), node(api.Cmp, 1, 9, 0, 0)}, api.OK},
		{[]api.Node{v(0, 8), node(api.Cmp, 1, 10, 0, 0)}, api.ErrArg},
		{[]api.Node{v(0, 8), node(api.Cmp, 8, 0, 0, 0)}, api.ErrArg},
		{[]api.Node{v(0, 8), v(1, 4), node(api.Cmp, 1, 0, 0, 1)}, api.ErrType},
		{[]api.Node{v(0, 8), v(1, 1), node(api.Select, 8, 0, 1, 0, 0)}, api.OK},
		{[]api.Node{v(0, 8), v(1, 1), node(api.Select, 8, 0, 0, 0, 0)}, api.ErrType},
		{[]api.Node{v(0, 8), node(api.ZExt, 9, 0, 0)}, api.OK},
		{[]api.Node{v(0, 8), node(api.SExt, 8, 0, 0)}, api.ErrType},
		{[]api.Node{v(0, 8), node(api.Trunc, 7, 0, 0)}, api.OK},
		{[]api.Node{v(0, 8), node(api.Trunc, 8, 0, 0)}, api.ErrType},
		{[]api.Node{v(0, 8), node(api.PAdd, 8, 4, 0, 0)}, api.ErrArg},
		{[]api.Node{v(0, 8), node(api.Freeze, 8, 0, 0)}, api.ErrArg},
		{[]api.Node{{Op: -1, Width: 8}}, api.ErrArg},
		{[]api.Node{v(0, 8), v(0, 4)}, api.ErrRule},
		{[]api.Node{v(0, 8), v(0, 4), node(api.Add, 8, 0, 0, 1)}, api.ErrType},
	} {
		if e := term.Validate(x.t); e != x.e {
			t.Error(i, e)
		}
		if _, e := term.Share(x.t); e != x.e {
			t.Error(i, e)
		}
	}
}

// P7.1: what functions return next.
func TestErrors(t *testing.T) {
	u := increment()
	for _, env := range [][]uint32{nil, {1, 2, 3}, {256, 0, 0, 0}, {0, 16, 0, 0}, {0, 0, 0, 0, 0}} {
		if _, e := term.Eval(u, env); e != api.ErrArg {
			t.Error(env, e)
		}
		if _, e := term.Values(u, env); e != api.ErrArg {
			t.Error(env, e)
		}
	}
	if n, e := term.Eval(u, []uint32{255, 15, 1<<32 - 1, 99}); n != 0 || e != api.OK {
		t.Error(n, e)
	}
	for _, k := range []int{-1, 5} {
		if _, e := term.Part(u, k); e != api.ErrNone {
			t.Error(k, e)
		}
	}
	other := []api.Node{v(1, 8)}
	for i, x := range []struct {
		t []api.Node
		v int
		u []api.Node
		e api.Errno
	}{
		{nil, 9, nil, api.ErrLarge},
		{u, 9, []api.Node{c(9, 1)}, api.ErrArg},
		{u, 4, other, api.ErrArg},
		{u, -1, other, api.ErrArg},
		{u, 2, other, api.ErrNone},
		{u, 0, []api.Node{v(1, 4)}, api.ErrType},
		{u, 0, other, api.OK},
		{[]api.Node{v(0, 8), v(1, 4), node(api.ZExt, 8, 0, 1), node(api.Add, 8, 0, 0, 2)}, 0, other, api.ErrRule},
		{long(), 0, other, api.OK},
		{long(), 0, slices.Repeat([]api.Node{v(1, 8)}, 1), api.OK},
		{long(), 0, []api.Node{v(1, 8), v(0, 8), node(api.Xor, 8, 0, 0, 1)}, api.ErrLarge},
	} {
		if _, e := term.Put(x.t, x.v, x.u); e != x.e {
			t.Error(i, e)
		}
	}
}

// long has 299 nodes, all of which lead to the root.
func long() []api.Node {
	u := []api.Node{v(0, 8)}
	for i := range 298 {
		u = append(u, node(api.Mul, 8, 0, i, i))
	}
	return u
}

// P7.2 and P7.3
func TestExamples(t *testing.T) {
	u := increment()
	if s, e := term.Text(u); s != "33:8.0 0:8.1 1:8,0,1" || e != api.OK {
		t.Error(s, e)
	}
	if l, e := term.Widths(u); !slices.Equal(l, []int{8, 4, 0, 0}) || e != api.OK {
		t.Error(l, e)
	}
	if l, e := term.Values(u, []uint32{255, 3, 0, 0}); !slices.Equal(l, []uint32{3, 255, 1, 1, 0}) || e != api.OK {
		t.Error(l, e)
	}
	if s, _ := term.Share(u); !pool.Same(s, []api.Node{v(0, 8), c(1, 8), node(api.Add, 8, 0, 0, 1)}) {
		t.Error(s)
	}
	if s, _ := term.Part(u, 3); !pool.Same(s, []api.Node{c(1, 8)}) {
		t.Error(s)
	}
	divided := []api.Node{v(0, 4), node(api.UDiv, 4, 0, 0, 0)}
	if n, _ := term.Eval(divided, make([]uint32, 4)); n != 15 {
		t.Error(n)
	}
	order := []api.Node{v(0, 8), v(1, 8), node(api.Sub, 8, 0, 1, 0), node(api.Add, 8, 0, 1, 2)}
	if s, _ := term.Text(order); s != "33:8.1 33:8.0 2:8,0,1 1:8,0,2" {
		t.Error(s)
	}
	compared := []api.Node{v(0, 8), v(1, 8), node(api.Cmp, 1, 6, 0, 1), node(api.Select, 8, 0, 2, 0, 1)}
	if s, _ := term.Text(compared); s != "33:8.0 33:8.1 14:1.6,0,1 15:8,2,0,1" {
		t.Error(s)
	}
	if n, _ := term.Eval(compared, []uint32{200, 100, 0, 0}); n != 200 {
		t.Error(n)
	}
	for i, want := range []int{1, 1, 1, 1, 2} {
		if n, e := term.Depth(u[:i+1]); n != want || e != api.OK {
			t.Error(i, n, e)
		}
	}
	if n, _ := term.Depth(long()); n != 299 {
		t.Error(n)
	}
}

// P7.3 to P7.5 for many terms.
func TestMany(t *testing.T) {
	for seed := range 1500 {
		u := fuzz.Terms(numbers(seed))
		s, e := term.Share(u)
		if term.Validate(u) != api.OK || e != api.OK || len(u) > 20 {
			t.Fatal(seed, u, e)
		}
		if r, _ := term.Share(s); !pool.Same(r, s) {
			t.Error(seed, s, r)
		}
		if p, _ := term.Part(u, len(u)-1); !pool.Same(p, s) {
			t.Error(seed, s, p)
		}
		if is, _ := term.Same(u, s); !is {
			t.Error(seed)
		}
		r, e := term.Simplify(u)
		if e != api.OK || term.Validate(r) != api.OK || len(r) > len(s) {
			t.Error(seed, u, r, e)
		}
		other := fuzz.Terms(numbers(seed + 1))
		is, _ := term.Same(u, other)
		a, _ := term.Text(u)
		b, _ := term.Text(other)
		if is != (a == b) {
			t.Error(seed, a, b)
		}
		for k := range 8 {
			env := environment(u, seed*8+k)
			n, _ := term.Eval(u, env)
			m, _ := term.Eval(s, env)
			o, _ := term.Eval(r, env)
			if n != m || n != o {
				t.Error(seed, env, n, m, o)
			}
			checkPut(t, u, other, env)
		}
	}
}

func checkPut(t *testing.T, u, other []api.Node, env []uint32) {
	t.Helper()
	for i := range api.MaxVars {
		r, e := term.Put(u, i, other)
		if e != api.OK {
			continue
		}
		n, f := term.Eval(other, env)
		put := slices.Clone(env)
		put[i] = n
		want, g := term.Eval(u, put)
		if m, _ := term.Eval(r, env); f == api.OK && g == api.OK && m != want {
			t.Error(u, i, other, env, m, want)
		}
		if s, _ := term.Share(r); !pool.Same(r, s) {
			t.Error(r, s)
		}
	}
}

// P7.4
func TestJoin(t *testing.T) {
	x, y := []api.Node{v(0, 8)}, []api.Node{v(0, 8), c(2, 8), node(api.Mul, 8, 0, 0, 1)}
	r, e := term.Join(api.Add, 8, 0, [][]api.Node{x, y})
	if !pool.Same(r, []api.Node{v(0, 8), c(2, 8), node(api.Mul, 8, 0, 0, 1), node(api.Add, 8, 0, 0, 2)}) || e != api.OK {
		t.Error(r, e)
	}
	for i, z := range []struct {
		op, w int
		imm   uint32
		parts [][]api.Node
		e     api.Errno
	}{
		{99, 8, 0, [][]api.Node{x, nil}, api.ErrLarge},
		{99, 8, 0, [][]api.Node{x, {v(9, 8)}, nil}, api.ErrArg},
		{api.Freeze, 8, 0, [][]api.Node{x}, api.ErrArg},
		{api.Add, 8, 0, [][]api.Node{x}, api.ErrArg},
		{api.Add, 8, 0, [][]api.Node{x, x, x, x}, api.ErrArg},
		{api.Add, 4, 0, [][]api.Node{x, x}, api.ErrType},
		{api.Add, 4, 9, [][]api.Node{x, x}, api.ErrArg},
		{api.Cmp, 1, 9, [][]api.Node{x, y}, api.OK},
		{api.Const, 4, 15, nil, api.OK},
		{api.Var, 4, 4, nil, api.ErrArg},
		{api.Cmp, 1, 0, [][]api.Node{x, {v(0, 4), node(api.ZExt, 8, 0, 0)}}, api.ErrRule},
		{api.Add, 8, 0, [][]api.Node{long(), long()}, api.OK},
		{api.Add, 8, 0, [][]api.Node{long(), x}, api.OK},
		{api.Add, 8, 0, [][]api.Node{long(), y}, api.ErrLarge},
	} {
		if r, e := term.Join(z.op, z.w, z.imm, z.parts); e != z.e || e != api.OK && r != nil {
			t.Error(i, r, e)
		}
	}
}

// P7.5
func TestSimplify(t *testing.T) {
	u := []api.Node{v(0, 8), c(3, 8), c(253, 8), node(api.Add, 8, 0, 1, 2), node(api.Add, 8, 0, 0, 3)}
	if r, e := term.Simplify(u); !pool.Same(r, []api.Node{v(0, 8)}) || e != api.OK {
		t.Error(r, e)
	}
	for op := api.Add; op <= api.AShr; op++ {
		r, _ := term.Simplify([]api.Node{c(200, 8), c(9, 8), node(op, 8, 0, 0, 1)})
		if n, _ := bits.Total(op, 8, 200, 9); !pool.Same(r, []api.Node{c(n, 8)}) {
			t.Error(op, r)
		}
	}
	if r, e := term.Simplify(nil); r != nil || e != api.ErrLarge {
		t.Error(r, e)
	}
}
