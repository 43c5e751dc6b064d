// Package claim makes terms out of conditions. The layers that prove something share it.
package claim

import (
	"slices"

	"backstay/api"
	"backstay/bits"
	"backstay/pool"
)

// Builder makes nodes; its numbers are those of nodes of the pool.
type Builder struct {
	*pool.Pool
}

// New returns a builder without nodes.
func New() *Builder {
	return &Builder{pool.New()}
}

// Claim returns the term with a root, and ErrLarge if it has too many nodes.
func (b *Builder) Claim(root int) ([]api.Node, api.Errno) {
	t := pool.Share(b.Nodes(), root)
	if len(t) > api.MaxNodes {
		return nil, api.ErrLarge
	}
	return t, api.OK
}

// Root adds a term, and returns its root.
func (b *Builder) Root(t []api.Node) int {
	return b.Take(t, len(t)-1, pool.Keep)
}

func (b *Builder) width(k int) int {
	return b.Nodes()[k].Width
}

// Constant returns a number, cut to a width.
func (b *Builder) Constant(w int, n uint32) int {
	all, _ := bits.Mask(w)
	return b.Add(api.Node{Op: api.Const, Width: w, Imm: n & all})
}

// Op returns an operation over two nodes of one Width.
func (b *Builder) Op(op, x, y int) int {
	return b.Add(api.Node{Op: op, Width: b.width(x), Args: []int{x, y}})
}

// Compare is 1 if a predicate holds.
func (b *Builder) Compare(pred, x, y int) int {
	if x == y && (pred == api.Eq || pred == api.Ne) {
		return b.Constant(1, uint32(1-pred))
	}
	return b.Add(api.Node{Op: api.Cmp, Width: 1, Args: []int{x, y}, Imm: uint32(pred)})
}

// Extend returns a node in another Width.
func (b *Builder) Extend(op, w, x int) int {
	return b.Add(api.Node{Op: op, Width: w, Args: []int{x}})
}

// Is tells whether a condition is a number.
func (b *Builder) Is(k int, n uint32) bool {
	x := b.Nodes()[k]
	return x.Op == api.Const && x.Imm == n
}

// Choose is x if c is 1, and otherwise y.
func (b *Builder) Choose(c, x, y int) int {
	switch {
	case x == y || b.Is(c, 1):
		return x
	case b.Is(c, 0):
		return y
	}
	return b.Add(api.Node{Op: api.Select, Width: b.width(x), Args: []int{c, x, y}})
}

// Not is 1 if a condition is 0.
func (b *Builder) Not(x int) int {
	n := b.Nodes()[x]
	switch {
	case n.Op == api.Const:
		return b.Constant(1, 1-n.Imm)
	case n.Op == api.Xor && b.Is(n.Args[1], 1):
		return n.Args[0]
	}
	one := b.Constant(1, 1)
	return b.Op(api.Xor, x, one)
}

// join puts different conditions together; those that are idle do not matter, and one that is the opposite decides.
func (b *Builder) join(op int, idle uint32, conditions []int) int {
	sum := b.Constant(1, idle)
	var seen []int
	for _, c := range conditions {
		switch {
		case b.Is(c, 1-idle):
			return c
		case b.Is(c, idle) || slices.Contains(seen, c):
			continue
		case len(seen) == 0:
			sum = c
		default:
			sum = b.Op(op, sum, c)
		}
		seen = append(seen, c)
	}
	return sum
}

// All is 1 if all conditions are.
func (b *Builder) All(conditions ...int) int {
	return b.join(api.And, 1, conditions)
}

// Some is 1 if one of the conditions is.
func (b *Builder) Some(conditions ...int) int {
	return b.join(api.Or, 0, conditions)
}

// Has is 1 if there is a word for an arithmetic operation.
func (b *Builder) Has(x api.Node) int {
	first, second := x.Args[0], x.Args[1]
	switch x.Op {
	case api.UDiv, api.URem, api.SDiv, api.SRem:
		is := b.Compare(api.Ne, second, b.Constant(x.Width, 0))
		if x.Op == api.UDiv || x.Op == api.URem {
			return is
		}
		return b.All(is, b.Some(b.Not(b.IsLowest(first)), b.Not(b.IsMinusOne(second))))
	case api.Shl, api.LShr, api.AShr:
		return b.Compare(api.Ult, second, b.Constant(x.Width, uint32(x.Width)))
	}
	return b.Constant(1, 1)
}

// IsLowest is 1 if a word has the lowest signed value.
func (b *Builder) IsLowest(x int) int {
	return b.Compare(api.Eq, x, b.Constant(b.width(x), 1<<(b.width(x)-1)))
}

// IsMinusOne is 1 if a word has the signed value -1.
func (b *Builder) IsMinusOne(x int) int {
	return b.Compare(api.Eq, x, b.Constant(b.width(x), 1<<32-1))
}

// Keeps is 1 if an operation, which is the node k without its flags, does not break them.
func (b *Builder) Keeps(x api.Node, k, flags int) int {
	kept := b.Constant(1, 1)
	if flags&api.NoUnsigned != 0 {
		kept = b.All(kept, b.fits(x, k, api.ZExt))
	}
	if flags&api.NoSigned != 0 {
		kept = b.All(kept, b.fits(x, k, api.SExt))
	}
	if flags&api.Exact != 0 {
		kept = b.All(kept, b.exact(x, k))
	}
	return kept
}

// fits is 1 if an operation gives the same in twice as many bits.
func (b *Builder) fits(x api.Node, k, extend int) int {
	w := 2 * x.Width
	first := b.Extend(extend, w, x.Args[0])
	by := extend
	if x.Op == api.Shl {
		by = api.ZExt
	}
	second := b.Extend(by, w, x.Args[1])
	return b.Compare(api.Eq, b.Op(x.Op, first, second), b.Extend(extend, w, k))
}

// exact is 1 if nothing is left over.
func (b *Builder) exact(x api.Node, k int) int {
	switch x.Op {
	case api.UDiv, api.SDiv:
		rest := b.Op(x.Op-api.UDiv+api.URem, x.Args[0], x.Args[1])
		return b.Compare(api.Eq, rest, b.Constant(x.Width, 0))
	}
	return b.Compare(api.Eq, b.Op(api.Shl, k, x.Args[1]), x.Args[0])
}
