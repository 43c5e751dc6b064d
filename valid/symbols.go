package valid

import (
	"slices"

	"backstay/api"
	"backstay/claim"
)

// symbol is what is known of a value: the node of its word, and of whether it is poison.
type symbol struct {
	word, poison int
}

// named is an instruction with its symbol.
type named struct {
	symbol
	api.Inst
}

// side is a block that is executed. Words that are not known are nodes Var with numbers that no term has; they get room in the variables of a term in the end.
type side struct {
	*claim.Builder
	p       *program
	block   int
	first   int // the number of the first unknown
	symbols map[int]symbol
	defined int
	to      []edge
	ret     symbol
}

// edge is a way out of the block, and when it is taken.
type edge struct {
	to, when int
}

// The unknowns of both sides: a word and a poison for each value.
const (
	unknowns = 1000
	poisons  = 500
)

func newSide(b *claim.Builder, p *program, block, number int) *side {
	return &side{Builder: b, p: p, block: block, first: number * unknowns, symbols: map[int]symbol{}, defined: b.Constant(1, 1)}
}

func (s *side) unknown(w, number int) int {
	return s.Add(api.Node{Op: api.Var, Width: w, Imm: uint32(number)})
}

// symbol returns that of a value; what is not computed in the block is not known.
func (s *side) symbol(v int) symbol {
	if x, is := s.symbols[v]; is {
		return x
	}
	x := symbol{poison: s.Constant(1, 0)}
	if s.p.isParam(v) {
		// Parameters are the same in both functions, and never poison.
		x.word = s.unknown(s.p.kinds[v], v)
	} else {
		x.word = s.unknown(s.p.kinds[v], s.first+v)
		x.poison = s.unknown(1, s.first+poisons+v)
	}
	s.symbols[v] = x
	return x
}

// execute executes the instructions of the block that are no Phis.
func (s *side) execute() {
	start := s.p.starts[s.block]
	for i, x := range s.p.f.Blocks[s.block] {
		if x.Op == api.Phi {
			continue
		}
		var args [3]symbol
		for k, a := range x.Args {
			args[k] = s.symbol(a)
		}
		if x.Width > 0 {
			s.symbols[start+i] = s.inst(x, args)
			continue
		}
		s.leave(x, args)
	}
}

func (s *side) leave(x api.Inst, args [3]symbol) {
	yes := s.Constant(1, 1)
	switch x.Op {
	case api.Jump:
		s.to = []edge{{x.To[0], yes}}
	case api.Branch:
		s.defined = s.All(s.defined, s.Not(args[0].poison))
		s.to = []edge{{x.To[0], args[0].word}, {x.To[1], s.Not(args[0].word)}}
	case api.Ret:
		if len(x.Args) > 0 {
			s.ret = args[0]
		}
	}
}

// inst returns the symbol of an instruction, as chapter 5 says.
func (s *side) inst(x api.Inst, args [3]symbol) symbol {
	n := named{symbol{poison: s.Some(args[0].poison, args[1].poison)}, x}
	a, b := args[0].word, args[1].word
	switch {
	case x.Op >= api.Add && x.Op <= api.AShr:
		s.arithmetic(&n, args)
	case x.Op == api.Const:
		n.word, n.poison = s.Constant(x.Width, x.Imm), s.Constant(1, 0)
	case x.Op == api.Poison:
		n.word, n.poison = s.Constant(x.Width, 0), s.Constant(1, 1)
	case x.Op == api.Cmp:
		n.word = s.Compare(int(x.Imm), a, b)
	case x.Op == api.Select:
		chosen := s.Choose(a, args[1].poison, args[2].poison)
		n.word, n.poison = s.Choose(a, b, args[2].word), s.Some(args[0].poison, chosen)
	case x.Op == api.PAdd || x.Op == api.PSub:
		n.word = s.lanes(x, a, b)
	default:
		n.word, n.poison = s.Extend(x.Op, x.Width, a), args[0].poison
	}
	return n.symbol
}

func (s *side) arithmetic(n *named, args [3]symbol) {
	x := api.Node{Op: n.Op, Width: n.Width, Args: []int{args[0].word, args[1].word}}
	n.word = s.Add(x)
	has := s.Has(x)
	if n.Op < api.UDiv || n.Op > api.SRem {
		n.poison = s.Some(n.poison, s.Not(has), s.Not(s.Keeps(x, n.word, n.Flags)))
		return
	}
	// By -1, a poison may be the lowest word: a signed division of it is undefined.
	free := s.Not(args[1].poison)
	if n.Op == api.SDiv || n.Op == api.SRem {
		free = s.All(free, s.Some(s.Not(args[0].poison), s.Not(s.IsMinusOne(args[1].word))))
		zero := s.Constant(n.Width, 0)
		lowest := s.All(s.Not(args[0].poison), s.IsLowest(args[0].word), s.IsMinusOne(args[1].word))
		has = s.All(s.Compare(api.Ne, args[1].word, zero), s.Not(lowest))
	}
	s.defined = s.All(s.defined, free, has)
	n.poison = s.Some(n.poison, s.Not(s.Keeps(x, n.word, n.Flags)))
}

// lanes keeps what is carried out of a lane from the next one: the highest bit of each lane is done by itself.
func (s *side) lanes(x api.Inst, a, b int) int {
	high := uint32(0)
	for at := int(x.Imm) - 1; at < x.Width; at += int(x.Imm) {
		high |= 1 << at
	}
	top, rest := s.Constant(x.Width, high), s.Constant(x.Width, ^high)
	low := s.Op(api.And, b, rest)
	different := s.Op(api.And, s.Op(api.Xor, a, b), top)
	if x.Op == api.PAdd {
		sum := s.Op(api.Add, s.Op(api.And, a, rest), low)
		return s.Op(api.Xor, sum, different)
	}
	difference := s.Op(api.Sub, s.Op(api.Or, a, top), low)
	return s.Op(api.Xor, difference, s.Op(api.Xor, different, top))
}

// incoming returns the value that another one is where the block is left for one.
func (s *side) incoming(v, to int) int {
	x := s.p.all[v]
	if s.p.blocks[v] == to && x.Op == api.Phi {
		return x.Args[slices.Index(x.To, s.block)]
	}
	return v
}
