package prove

import (
	"backstay/api"
	"backstay/bits"
	"backstay/pool"
)

// builder makes claims; its numbers are those of nodes of the pool.
type builder struct {
	*pool.Pool
}

func newBuilder() *builder {
	return &builder{pool.New()}
}

// claim returns the term with a root, and ErrLarge if it has too many nodes.
func (b *builder) claim(root int) ([]api.Node, api.Errno) {
	t := pool.Share(b.Nodes(), root)
	if len(t) > api.MaxNodes {
		return nil, api.ErrLarge
	}
	return t, api.OK
}

func (b *builder) take(t []api.Node) int {
	return b.Take(t, len(t)-1, pool.Keep)
}

func (b *builder) width(k int) int {
	return b.Nodes()[k].Width
}

func (b *builder) constant(w int, n uint32) int {
	all, _ := bits.Mask(w)
	return b.Add(api.Node{Op: api.Const, Width: w, Imm: n & all})
}

func (b *builder) op(op, x, y int) int {
	return b.Add(api.Node{Op: op, Width: b.width(x), Args: []int{x, y}})
}

func (b *builder) compare(pred, x, y int) int {
	return b.Add(api.Node{Op: api.Cmp, Width: 1, Args: []int{x, y}, Imm: uint32(pred)})
}

func (b *builder) extend(op, w, x int) int {
	return b.Add(api.Node{Op: op, Width: w, Args: []int{x}})
}

func (b *builder) isTrue(k int) bool {
	x := b.Nodes()[k]
	return x.Op == api.Const && x.Imm == 1
}

func (b *builder) not(x int) int {
	one := b.constant(1, 1)
	return b.op(api.Xor, x, one)
}

// all is 1 if all conditions are; those that are 1 anyway are left out.
func (b *builder) all(conditions ...int) int {
	sum := b.constant(1, 1)
	for _, c := range conditions {
		switch {
		case b.isTrue(sum):
			sum = c
		case !b.isTrue(c):
			sum = b.op(api.And, sum, c)
		}
	}
	return sum
}

// some is 1 if one of the conditions is.
func (b *builder) some(conditions ...int) int {
	sum := conditions[0]
	for _, c := range conditions[1:] {
		sum = b.op(api.Or, sum, c)
	}
	return sum
}

// side is what is claimed of a term with flags: that it is defined, and that it is clean where it is.
type side struct {
	root, defined, clean int
}

// side adds a term with flags, without its flags, and the conditions of its nodes.
func (b *builder) side(t []api.Node) side {
	s := side{defined: b.constant(1, 1), clean: b.constant(1, 1)}
	var places []int
	for _, x := range pool.Share(t, len(t)-1) {
		flags := x.Flags
		x.Flags = 0
		for i, a := range x.Args {
			x.Args[i] = places[a]
		}
		k := b.Add(x)
		places = append(places, k)
		if x.Op >= api.Add && x.Op <= api.AShr {
			defined := b.has(x)
			clean := b.keeps(x, k, flags)
			if x.Op >= api.UDiv && x.Op <= api.SRem {
				s.defined = b.all(s.defined, defined)
			} else {
				clean = b.all(clean, defined)
			}
			s.clean = b.all(s.clean, clean)
		}
	}
	s.root = places[len(places)-1]
	return s
}

// has is 1 if there is a word for a node.
func (b *builder) has(x api.Node) int {
	first, second := x.Args[0], x.Args[1]
	switch x.Op {
	case api.UDiv, api.URem, api.SDiv, api.SRem:
		zero := b.constant(x.Width, 0)
		is := b.compare(api.Ne, second, zero)
		if x.Op == api.UDiv || x.Op == api.URem {
			return is
		}
		lowest, minus := b.constant(x.Width, 1<<(x.Width-1)), b.constant(x.Width, 1<<32-1)
		fits := b.some(b.compare(api.Ne, first, lowest), b.compare(api.Ne, second, minus))
		return b.all(is, fits)
	case api.Shl, api.LShr, api.AShr:
		return b.compare(api.Ult, second, b.constant(x.Width, uint32(x.Width)))
	}
	return b.constant(1, 1)
}

// keeps is 1 if a node, which is k without its flags, does not break them.
func (b *builder) keeps(x api.Node, k, flags int) int {
	kept := b.constant(1, 1)
	if flags&api.NoUnsigned != 0 {
		kept = b.all(kept, b.fits(x, k, api.ZExt))
	}
	if flags&api.NoSigned != 0 {
		kept = b.all(kept, b.fits(x, k, api.SExt))
	}
	if flags&api.Exact != 0 {
		kept = b.all(kept, b.exact(x, k))
	}
	return kept
}

// fits is 1 if an operation gives the same in twice as many bits.
func (b *builder) fits(x api.Node, k, extend int) int {
	w := 2 * x.Width
	first := b.extend(extend, w, x.Args[0])
	by := extend
	if x.Op == api.Shl {
		by = api.ZExt
	}
	second := b.extend(by, w, x.Args[1])
	return b.compare(api.Eq, b.op(x.Op, first, second), b.extend(extend, w, k))
}

// exact is 1 if nothing is left over.
func (b *builder) exact(x api.Node, k int) int {
	switch x.Op {
	case api.UDiv, api.SDiv:
		rest := b.op(x.Op-api.UDiv+api.URem, x.Args[0], x.Args[1])
		return b.compare(api.Eq, rest, b.constant(x.Width, 0))
	}
	return b.compare(api.Eq, b.op(api.Shl, k, x.Args[1]), x.Args[0])
}

// hole is the variable that stands for a Hole.
func hole(h, w int) api.Node {
	return api.Node{Op: api.Var, Width: w, Imm: uint32(2 + h)}
}

// meeting is 1 if preconditions hold.
func (b *builder) meeting(pre []api.Cond, w int) int {
	sum := b.constant(1, 1)
	for _, c := range pre {
		sum = b.all(sum, b.condition(c, w))
	}
	return sum
}

func (b *builder) condition(c api.Cond, w int) int {
	n := b.Add(hole(c.Hole, w))
	zero, one := b.constant(w, 0), b.constant(w, 1)
	switch c.Kind {
	case 1:
		less := b.op(api.Sub, n, one)
		single := b.compare(api.Eq, b.op(api.And, n, less), zero)
		return b.all(b.compare(api.Ne, n, zero), single)
	case 2:
		return b.compare(api.Ult, n, b.constant(w, uint32(w)))
	case 3:
		return b.compare(api.Eq, b.op(api.And, n, one), one)
	case 4:
		return b.compare(api.Ne, n, b.constant(w, c.Imm))
	}
	return b.compare(api.Ne, n, zero)
}

// open returns a pattern at a width, as a term with flags in which variables stand for the Holes.
func (b *builder) open(p []api.Node, w int) []api.Node {
	parts := pool.New()
	var places []int
	for _, x := range p {
		args := make([]int, len(x.Args))
		for i, a := range x.Args {
			args[i] = places[a]
		}
		if x.Width == 0 {
			x.Width = w
		}
		x.Args = args
		switch x.Op {
		case api.Const:
			all, _ := bits.Mask(x.Width)
			x.Imm &= all
		case api.Hole:
			x = hole(int(x.Imm), w)
		}
		k := 0
		if x.Op == api.Trail {
			k = trail(&builder{parts}, args[0], w)
		} else {
			k = parts.Add(x)
		}
		places = append(places, k)
	}
	return pool.Share(parts.Nodes(), places[len(places)-1])
}

// trail is how many zeros a number ends with, modulo 2^w.
func trail(b *builder, n, w int) int {
	zero := b.constant(w, 0)
	sum := b.constant(w, uint32(w))
	for i := w - 1; i >= 0; i-- {
		bit := b.op(api.And, n, b.constant(w, 1<<i))
		is := b.compare(api.Ne, bit, zero)
		zeros := b.constant(w, uint32(i))
		sum = b.Add(api.Node{Op: api.Select, Width: w, Args: []int{is, zeros, sum}})
	}
	return sum
}
