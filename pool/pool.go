// Package pool holds the nodes of terms and patterns, each different one once. The layers of terms share it.
package pool

import (
	"slices"

	"backstay/api"
)

// key is what makes a node different from the others.
type key struct {
	op, width, flags int
	imm              uint32
	args             [3]int
}

// Pool is nodes, none of them equal to another one.
type Pool struct {
	nodes []api.Node
	known map[key]int
}

// New returns an empty pool.
func New() *Pool {
	return &Pool{known: map[key]int{}}
}

// Nodes returns the nodes, in the order in which they were added.
func (p *Pool) Nodes() []api.Node {
	return p.nodes
}

// Add returns the number of a node, the Args of which are nodes of the pool; it becomes the last one if it is new.
func (p *Pool) Add(x api.Node) int {
	k := key{op: x.Op, width: x.Width, flags: x.Flags, imm: x.Imm}
	copy(k.args[:], x.Args)
	if at, is := p.known[k]; is {
		return at
	}
	p.known[k] = len(p.nodes)
	x.Args = slices.Clone(x.Args)
	p.nodes = append(p.nodes, x)
	return len(p.nodes) - 1
}

// Take adds what leads to a node of a list, Args first, and returns its number. Where swap has a number for a node, this one stands for it.
func (p *Pool) Take(t []api.Node, root int, swap func(x api.Node) (int, bool)) int {
	places := make([]int, len(t))
	for i := range places {
		places[i] = -1
	}
	var visit func(k int) int
	visit = func(k int) int {
		if places[k] >= 0 {
			return places[k]
		}
		x := t[k]
		if at, is := swap(x); is {
			places[k] = at
			return at
		}
		x.Args = nil
		for _, a := range t[k].Args {
			at := visit(a)
			x.Args = append(x.Args, at)
		}
		places[k] = p.Add(x)
		return places[k]
	}
	return visit(root)
}

// Keep swaps no node.
func Keep(x api.Node) (int, bool) {
	return 0, false
}

// Share returns what leads to a node of a list, without equal nodes, Args first.
func Share(t []api.Node, root int) []api.Node {
	p := New()
	p.Take(t, root, Keep)
	return p.nodes
}

// Same reports whether two lists are equal.
func Same(t, u []api.Node) bool {
	return slices.EqualFunc(t, u, func(x, y api.Node) bool {
		return x.Op == y.Op && x.Width == y.Width && x.Flags == y.Flags && x.Imm == y.Imm && slices.Equal(x.Args, y.Args)
	})
}
