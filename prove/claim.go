package prove

import (
	"backstay/api"
	"backstay/bits"
	"backstay/claim"
	"backstay/pool"
)

// builder makes the claims of this chapter.
type builder struct {
	*claim.Builder
}

func newBuilder() *builder {
	return &builder{claim.New()}
}

// side is what is claimed of a term with flags: that it is defined, and that it is clean where it is.
type side struct {
	root, defined, clean int
}

// side adds a term with flags, without its flags, and the conditions of its nodes.
func (b *builder) side(t []api.Node) side {
	s := side{defined: b.Constant(1, 1), clean: b.Constant(1, 1)}
	var places []int
	for _, x := range pool.Share(t, len(t)-1) {
		flags := x.Flags
		x.Flags = 0
		for i, a := range x.Args {
			x.Args[i] = places[a]
		}
		k := b.Add(x)
		places = append(places, k)
		if x.Op >= api.Add && x.Op <= api.AShr {
			defined := b.Has(x)
			clean := b.Keeps(x, k, flags)
			if x.Op >= api.UDiv && x.Op <= api.SRem {
				s.defined = b.All(s.defined, defined)
			} else {
				clean = b.All(clean, defined)
			}
			s.clean = b.All(s.clean, clean)
		}
	}
	s.root = places[len(places)-1]
	return s
}

// hole is the variable that stands for a Hole.
func hole(h, w int) api.Node {
	return api.Node{Op: api.Var, Width: w, Imm: uint32(2 + h)}
}

// meeting is 1 if preconditions hold.
func (b *builder) meeting(pre []api.Cond, w int) int {
	sum := b.Constant(1, 1)
	for _, c := range pre {
		sum = b.All(sum, b.condition(c, w))
	}
	return sum
}

func (b *builder) condition(c api.Cond, w int) int {
	n := b.Add(hole(c.Hole, w))
	zero, one := b.Constant(w, 0), b.Constant(w, 1)
	switch c.Kind {
	case 1:
		less := b.Op(api.Sub, n, one)
		single := b.Compare(api.Eq, b.Op(api.And, n, less), zero)
		return b.All(b.Compare(api.Ne, n, zero), single)
	case 2:
		return b.Compare(api.Ult, n, b.Constant(w, uint32(w)))
	case 3:
		return b.Compare(api.Eq, b.Op(api.And, n, one), one)
	case 4:
		return b.Compare(api.Ne, n, b.Constant(w, c.Imm))
	}
	return b.Compare(api.Ne, n, zero)
}

// open returns a pattern at a width, as a term with flags in which variables stand for the Holes.
func (b *builder) open(p []api.Node, w int) []api.Node {
	parts := pool.New()
	var places []int
	for _, x := range p {
		args := make([]int, len(x.Args))
		for i, a := range x.Args {
			args[i] = places[a]
		}
		if x.Width == 0 {
			x.Width = w
		}
		x.Args = args
		switch x.Op {
		case api.Const:
			all, _ := bits.Mask(x.Width)
			x.Imm &= all
		case api.Hole:
			x = hole(int(x.Imm), w)
		}
		k := 0
		if x.Op == api.Trail {
			k = trail(&claim.Builder{Pool: parts}, args[0], w)
		} else {
			k = parts.Add(x)
		}
		places = append(places, k)
	}
	return pool.Share(parts.Nodes(), places[len(places)-1])
}

// trail is how many zeros a number ends with, modulo 2^w.
func trail(b *claim.Builder, n, w int) int {
	zero := b.Constant(w, 0)
	sum := b.Constant(w, uint32(w))
	for i := w - 1; i >= 0; i-- {
		bit := b.Op(api.And, n, b.Constant(w, 1<<i))
		is := b.Compare(api.Ne, bit, zero)
		zeros := b.Constant(w, uint32(i))
		sum = b.Choose(is, zeros, sum)
	}
	return sum
}
