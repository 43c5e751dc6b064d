package pick

import (
	"slices"

	"backstay/api"
	"backstay/flow"
	"backstay/ir"
)

// tile says how an operation of middle code is covered with neutral code.
type tile struct {
	op   int // of neutral code, where this tells the tile apart
	emit func(s *selection, t tile, d int, x api.Inst)
}

// tiles has one tile for each of Const to Store, in their order.
func tiles() [28]tile {
	return [28]tile{
		{0, emitConst},
		{api.NAdd, emitCut},
		{api.NSub, emitCut},
		{api.NMul, emitCut},
		{api.NDivu, emitPlain},
		{api.NRemu, emitPlain},
		{api.NDiv, emitSigned},
		{api.NRem, emitSigned},
		{api.NAnd, emitPlain},
		{api.NOr, emitPlain},
		{api.NXor, emitPlain},
		{api.NShl, emitCut},
		{api.NShr, emitPlain},
		{api.NSar, emitSar},
		{0, emitCompare},
		{0, emitSelect},
		{0, emitMove},
		{0, emitSExt},
		{0, emitTrunc},
		{api.NAdd, emitLanes},
		{api.NSub, emitLanes},
		{0, emitMove},
		{0, emitConst},
		{0, emitConst},
		{0, emitAddr},
		{0, emitGep},
		{0, emitLoad},
		{0, emitStore},
	}
}

// The registers behind those of the values: some that are used for a moment, and one for each Phi.
const (
	first = iota
	second
	third
	moments
)

// selection turns a function into neutral code. Each value has the register with its number.
type selection struct {
	f      api.Func
	kinds  []int
	starts []int
	code   []api.Code // of the block that is made
	blocks [][]api.Code
}

// Pick returns neutral code for a function.
func Pick(f api.Func) (api.Program, api.Errno) {
	if e := ir.Validate(f); e != api.OK {
		return api.Program{}, e
	}
	s := &selection{f: f, kinds: slices.Clone(f.Params)}
	phis := 0
	for _, block := range f.Blocks {
		s.starts = append(s.starts, len(s.kinds))
		for _, x := range block {
			s.kinds = append(s.kinds, x.Width)
			if x.Op == api.Phi {
				phis++
			}
		}
	}
	s.all()
	p := api.Program{Regs: len(s.kinds) + moments + phis, Blocks: s.blocks}
	if Validate(p) != api.OK {
		return api.Program{}, api.ErrLarge
	}
	return p, api.OK
}

// all makes the blocks that are reached. The numbers of blocks are given as they are asked for; edges with moves get blocks of their own behind them.
func (s *selection) all() {
	g, _ := ir.Graph(s.f)
	order, _ := flow.Order(g)
	s.blocks = make([][]api.Code, len(order))
	number := func(b int) int {
		return slices.Index(order, b)
	}
	for i, b := range order {
		s.code = nil
		if i == 0 {
			s.params()
		}
		s.body(b)
		s.leave(b, number)
		s.blocks[i] = s.code
	}
}

func (s *selection) add(x api.Code) {
	s.code = append(s.code, x)
}

// moment is a register that is used for a moment.
func (s *selection) moment(k int) int {
	return len(s.kinds) + k
}

func (s *selection) three(op, d, a, b int) {
	s.add(api.Code{Op: op, D: d, A: a, B: b})
}

// number loads a number into a register for a moment.
func (s *selection) number(k int, n uint32) int {
	s.add(api.Code{Op: api.NLi, D: s.moment(k), Imm: n})
	return s.moment(k)
}

func all(w int) uint32 {
	return uint32(1<<w - 1)
}

// cut cuts a register to the bits of a width.
func (s *selection) cut(d, w int) {
	if w < api.MaxWidth {
		s.three(api.NAnd, d, d, s.number(first, all(w)))
	}
}

// raise brings the sign of a word of a width to the highest bit.
func (s *selection) raise(d, a, w int) {
	if w == api.MaxWidth {
		s.add(api.Code{Op: api.NMv, D: d, A: a})
		return
	}
	s.three(api.NShl, d, a, s.number(first, uint32(api.MaxWidth-w)))
}

// sign makes the signed value of a word.
func (s *selection) sign(d, a, w int) {
	s.raise(d, a, w)
	if w < api.MaxWidth {
		s.three(api.NSar, d, d, s.moment(first))
	}
}

func (s *selection) params() {
	for i := range s.f.Params {
		s.add(api.Code{Op: api.NLw, D: i, A: -1, Imm: uint32(api.ArgsAt + 4*i)})
	}
}

func (s *selection) body(b int) {
	table := tiles()
	for i, x := range s.f.Blocks[b] {
		if x.Op <= api.Store {
			t := table[x.Op]
			t.emit(s, t, s.starts[b]+i, x)
		}
	}
}

// leave makes the last instruction of a block.
func (s *selection) leave(b int, number func(b int) int) {
	x := s.f.Blocks[b][len(s.f.Blocks[b])-1]
	switch x.Op {
	case api.Jump:
		s.code = append(s.code, s.moves(b, x.To[0])...)
		s.add(api.Code{Op: api.NJmp, To: number(x.To[0])})
	case api.Branch:
		yes := s.edge(b, x.To[0], number)
		no := s.edge(b, x.To[1], number)
		s.add(api.Code{Op: api.NBnz, A: x.Args[0], To: yes})
		s.add(api.Code{Op: api.NJmp, To: no})
	case api.Ret:
		if len(x.Args) > 0 {
			s.add(api.Code{Op: api.NSw, A: -1, B: x.Args[0], Imm: api.RetAt})
		}
		s.add(api.Code{Op: api.NHalt})
	default:
		s.add(api.Code{Op: api.NStop})
	}
}

// edge returns the block to which a branch goes: that of the Phis' moves if there are any.
func (s *selection) edge(from, to int, number func(b int) int) int {
	l := s.moves(from, to)
	if len(l) == 0 {
		return number(to)
	}
	s.blocks = append(s.blocks, append(l, api.Code{Op: api.NJmp, To: number(to)}))
	return len(s.blocks) - 1
}

// moves does what the Phis of a block do. All are read before one is written, if that matters.
func (s *selection) moves(from, to int) []api.Code {
	var l, later []api.Code
	matters := false
	for i, x := range s.f.Blocks[to] {
		if x.Op != api.Phi {
			break
		}
		d, a := s.starts[to]+i, x.Args[slices.Index(x.To, from)]
		matters = matters || a >= s.starts[to] && a < d
		kept := len(s.kinds) + moments + i
		l = append(l, api.Code{Op: api.NMv, D: kept, A: a})
		later = append(later, api.Code{Op: api.NMv, D: d, A: kept})
	}
	if matters {
		return append(l, later...)
	}
	for i := range l {
		l[i].D = later[i].D
	}
	return l
}
