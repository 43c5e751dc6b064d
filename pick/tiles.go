package pick

import "backstay/api"

// emitConst also makes a word of what may be any, or is poison.
func emitConst(s *selection, t tile, d int, x api.Inst) {
	s.add(api.Code{Op: api.NLi, D: d, Imm: x.Imm})
}

func emitPlain(s *selection, t tile, d int, x api.Inst) {
	s.three(t.op, d, x.Args[0], x.Args[1])
}

func emitCut(s *selection, t tile, d int, x api.Inst) {
	emitPlain(s, t, d, x)
	s.cut(d, x.Width)
}

func emitSigned(s *selection, t tile, d int, x api.Inst) {
	s.sign(s.moment(second), x.Args[0], x.Width)
	s.sign(s.moment(third), x.Args[1], x.Width)
	s.three(t.op, d, s.moment(second), s.moment(third))
	s.cut(d, x.Width)
}

func emitSar(s *selection, t tile, d int, x api.Inst) {
	s.sign(s.moment(second), x.Args[0], x.Width)
	s.three(t.op, d, s.moment(second), x.Args[1])
	s.cut(d, x.Width)
}

func emitCompare(s *selection, t tile, d int, x api.Inst) {
	a, b, pred := x.Args[0], x.Args[1], int(x.Imm)
	op := api.NSltu
	if pred >= api.Slt {
		w := s.kinds[a]
		s.raise(s.moment(second), a, w)
		s.raise(s.moment(third), b, w)
		a, b, pred, op = s.moment(second), s.moment(third), pred-api.Slt+api.Ult, api.NSlt
	}
	turned := false
	switch pred {
	case api.Eq, api.Ne:
		op, turned = api.NSeq, pred == api.Ne
	case api.Ule:
		a, b, turned = b, a, true
	case api.Ugt:
		a, b = b, a
	case api.Uge:
		turned = true
	}
	s.three(op, d, a, b)
	if turned {
		s.three(api.NXor, d, d, s.number(first, 1))
	}
}

// emitSelect has no branch: where the condition is 1, what is different is changed.
func emitSelect(s *selection, t tile, d int, x api.Inst) {
	zero := s.number(first, 0)
	s.three(api.NSub, zero, zero, x.Args[0])
	s.three(api.NXor, s.moment(second), x.Args[1], x.Args[2])
	s.three(api.NAnd, s.moment(second), s.moment(second), zero)
	s.three(api.NXor, d, s.moment(second), x.Args[2])
}

func emitMove(s *selection, t tile, d int, x api.Inst) {
	s.add(api.Code{Op: api.NMv, D: d, A: x.Args[0]})
}

func emitSExt(s *selection, t tile, d int, x api.Inst) {
	s.sign(d, x.Args[0], s.kinds[x.Args[0]])
	s.cut(d, x.Width)
}

func emitTrunc(s *selection, t tile, d int, x api.Inst) {
	s.three(api.NAnd, d, x.Args[0], s.number(first, all(x.Width)))
}

// emitLanes keeps what is carried out of a lane from the next one: the highest bit of each lane is done by itself.
func emitLanes(s *selection, t tile, d int, x api.Inst) {
	high := uint32(0)
	for at := int(x.Imm) - 1; at < x.Width; at += int(x.Imm) {
		high |= 1 << at
	}
	a, b := x.Args[0], x.Args[1]
	low, other, mask := s.moment(second), s.moment(third), s.moment(first)
	s.number(first, all(x.Width)&^high)
	s.three(api.NAnd, low, b, mask)
	if t.op == api.NAdd {
		s.three(api.NAnd, other, a, mask)
		s.three(api.NAdd, low, other, low)
		s.number(first, high)
	} else {
		s.number(first, high)
		s.three(api.NOr, other, a, mask)
		s.three(api.NSub, low, other, low)
		s.three(api.NXor, low, low, mask)
	}
	s.three(api.NXor, other, a, b)
	s.three(api.NAnd, other, other, mask)
	s.three(api.NXor, d, low, other)
}

func emitAddr(s *selection, t tile, d int, x api.Inst) {
	s.add(api.Code{Op: api.NLi, D: d, Imm: uint32(slotAt(int(x.Imm)))})
}

func emitGep(s *selection, t tile, d int, x api.Inst) {
	s.sign(s.moment(second), x.Args[1], s.kinds[x.Args[1]])
	s.three(api.NAdd, d, x.Args[0], s.moment(second))
}

// wide tells which of three operations, for 8, 16 and 32 bits, is that for a width.
func wide(op, w int) int {
	switch w {
	case 8:
		return op
	case 16:
		return op + 1
	}
	return op + 2
}

func emitLoad(s *selection, t tile, d int, x api.Inst) {
	s.add(api.Code{Op: wide(api.NLb, x.Width), D: d, A: x.Args[0]})
}

func emitStore(s *selection, t tile, d int, x api.Inst) {
	s.add(api.Code{Op: wide(api.NSb, s.kinds[x.Args[1]]), A: x.Args[0], B: x.Args[1]})
}
