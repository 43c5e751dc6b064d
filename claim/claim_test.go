package claim_test

import (
	"testing"

	"backstay/api"
	"backstay/bits"
	"backstay/claim"
	"backstay/term"
)

// Has and Keeps are as package bits says.
func TestConditions(t *testing.T) {
	for op := api.Add; op <= api.AShr; op++ {
		for flags := range 5 {
			b := claim.New()
			x := b.Add(api.Node{Op: api.Var, Width: 3})
			y := b.Add(api.Node{Op: api.Var, Width: 3, Imm: 1})
			n := api.Node{Op: op, Width: 3, Args: []int{x, y}}
			if (op > api.Mul && op != api.Shl) == (flags&3 != 0) || (op == api.And || op == api.Or || op == api.Xor || op == api.URem || op == api.SRem) && flags != 0 {
				continue
			}
			k := b.Add(n)
			has, e1 := b.Claim(b.Has(n))
			keeps, e2 := b.Claim(b.Keeps(n, k, flags))
			if e1 != api.OK || e2 != api.OK {
				t.Fatal(op, e1, e2)
			}
			for i := range uint32(64) {
				env := []uint32{i >> 3, i & 7, 0, 0}
				_, is, _ := bits.Do(op, 3, env[0], env[1])
				broken, _ := bits.Breaks(op, flags, 3, env[0], env[1])
				if h, _ := term.Eval(has, env); (h == 1) != is {
					t.Error(op, env, h)
				}
				if c, _ := term.Eval(keeps, env); is && (c == 1) == broken {
					t.Error(op, flags, env, c)
				}
			}
		}
	}
}

func TestLogic(t *testing.T) {
	b := claim.New()
	x := b.Add(api.Node{Op: api.Var, Width: 1})
	y := b.Add(api.Node{Op: api.Var, Width: 1, Imm: 1})
	yes, no := b.Constant(1, 1), b.Constant(1, 0)
	for i, c := range [][2]int{
		{b.All(), yes}, {b.Some(), no}, {b.All(yes, x, x, yes), x}, {b.All(x, no, y), no}, {b.Some(no, y), y}, {b.Some(y, yes), yes},
		{b.Not(b.Not(x)), x}, {b.Not(yes), no}, {b.Choose(yes, x, y), x}, {b.Choose(no, x, y), y}, {b.Choose(x, y, y), y},
		{b.Compare(api.Eq, x, x), yes}, {b.Compare(api.Ne, x, x), no}, {b.All(x, y), b.Op(api.And, x, y)}, {b.Some(x, y), b.Op(api.Or, x, y)},
	} {
		if c[0] != c[1] {
			t.Error(i, b.Nodes()[c[0]], b.Nodes()[c[1]])
		}
	}
	large := x
	for range 301 {
		large = b.Op(api.Xor, large, y)
		large = b.Op(api.Or, large, x)
	}
	if l, e := b.Claim(large); l != nil || e != api.ErrLarge {
		t.Error(len(l), e)
	}
}
