package pool

import (
	"testing"

	"backstay/api"
)

func node(op int, args ...int) api.Node {
	return api.Node{Op: op, Width: 8, Args: args}
}

func TestShare(t *testing.T) {
	l := []api.Node{node(api.Const), node(api.Var), node(api.Var), node(api.Add, 1, 2), node(api.Add, 2, 1), node(api.Mul, 4, 3)}
	want := []api.Node{node(api.Var), node(api.Add, 0, 0), node(api.Mul, 1, 1)}
	if s := Share(l, 5); !Same(s, want) {
		t.Error(s)
	}
	l[4].Flags = 1
	want = []api.Node{node(api.Var), node(api.Add, 0, 0), node(api.Add, 0, 0), node(api.Mul, 1, 2)}
	want[1].Flags = 1
	if s := Share(l, 5); !Same(s, want) {
		t.Error(s)
	}
	s := Share(l, 3)
	s[1].Args[0] = 9
	if l[3].Args[0] != 1 {
		t.Error("the result shares memory")
	}
}

func TestSwap(t *testing.T) {
	p := New()
	p.Add(node(api.Const))
	at := p.Take([]api.Node{node(api.Var), node(api.Add, 0, 0)}, 1, func(x api.Node) (int, bool) { return 0, x.Op == api.Var })
	if at != 1 || !Same(p.Nodes(), []api.Node{node(api.Const), node(api.Add, 0, 0)}) {
		t.Error(at, p.Nodes())
	}
}
