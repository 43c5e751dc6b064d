package place

import (
	"backstay/api"
	"backstay/ia"
)

// secondSet is the set of chapter 19. Its registers 0 to 2 are used for a moment: some instructions want them.
type secondSet struct{}

func (secondSet) registers() int { return 4 }

func (secondSet) isBranch(op int) bool { return op == api.NBnz || op == api.NJmp }

// reaches counts from the end of the short form: two bytes of the jump, and two of the test before a conditional one.
func (secondSet) reaches(op, distance int) bool {
	if op == api.NBnz {
		distance -= 2
	}
	return distance-2 >= -128 && distance-2 <= 127
}

func (s secondSet) code(x api.Code, isLong bool, distance int) []byte {
	b, _ := ia.Bytes(s.list(x, isLong, distance))
	return b
}

// register is that of the set; what has none is 0.
func (secondSet) register(r int) int {
	if r < 0 || r > 3 {
		return 0
	}
	return [4]int{3, 5, 6, 7}[r]
}

// The conditions.
const (
	below    = 2
	isZero   = 4
	notZero  = 5
	lessThan = 12
)

func two(op, d, s int) api.IA {
	return api.IA{Op: op, D: d, S: s, Size: 32}
}

func move(d, s int) api.IA {
	return two(api.IMov, d, s)
}

func (s secondSet) list(x api.Code, isLong bool, distance int) []api.IA {
	d, a, b := s.register(x.D), s.register(x.A), s.register(x.B)
	switch {
	case x.Op == api.NLi:
		return []api.IA{{Op: api.IMovI, D: d, Size: 32, Imm: int(x.Imm)}}
	case x.Op == api.NMv:
		return []api.IA{move(d, a)}
	case x.Op <= api.NSeq:
		return s.arithmetic(x.Op, d, a, b)
	case x.Op <= api.NSw:
		return s.memory(x, d, a, b)
	case x.Op == api.NJmp && isLong:
		return []api.IA{{Op: api.IJmp, Size: 32, Imm: distance - 5}}
	case x.Op == api.NJmp:
		return []api.IA{{Op: api.IJmp, Size: 8, Imm: short(distance - 2)}}
	case x.Op == api.NBnz && isLong:
		return []api.IA{two(api.ITest, a, a), {Op: api.IJcc, S: notZero, Size: 32, Imm: distance - 8}}
	case x.Op == api.NBnz:
		return []api.IA{two(api.ITest, a, a), {Op: api.IJcc, S: notZero, Size: 8, Imm: short(distance - 4)}}
	case x.Op == api.NHalt:
		return []api.IA{{Op: api.IHlt, Size: 32}}
	}
	return []api.IA{{Op: api.IUd, Size: 32}}
}

// short is a distance that a short form may have; while places are not known yet, any one will do.
func short(distance int) int {
	return max(-128, min(127, distance))
}

func (s secondSet) arithmetic(op, d, a, b int) []api.IA {
	switch op {
	case api.NAdd:
		return through(api.IAdd, d, a, b)
	case api.NSub:
		return through(api.ISub, d, a, b)
	case api.NMul:
		return through(api.IMul, d, a, b)
	case api.NAnd:
		return through(api.IAnd, d, a, b)
	case api.NOr:
		return through(api.IOr, d, a, b)
	case api.NXor:
		return through(api.IXor, d, a, b)
	case api.NShl:
		return shifted(api.IShl, d, a, b)
	case api.NShr:
		return shifted(api.IShr, d, a, b)
	case api.NSar:
		return shifted(api.ISar, d, a, b)
	case api.NSlt:
		return compared(lessThan, d, a, b)
	case api.NSltu:
		return compared(below, d, a, b)
	case api.NSeq:
		return compared(isZero, d, a, b)
	}
	return divided(op, d, a, b)
}

// through does an operation in a register for a moment: the result may stand in one that is read.
func through(op, d, a, b int) []api.IA {
	if d == a {
		return []api.IA{two(op, d, b)}
	}
	return []api.IA{move(0, a), two(op, 0, b), move(d, 0)}
}

func shifted(op, d, a, b int) []api.IA {
	return []api.IA{move(1, b), move(0, a), {Op: op, Size: 32}, move(d, 0)}
}

func compared(condition, d, a, b int) []api.IA {
	return []api.IA{two(api.ICmp, a, b), two(api.ISet, 0, condition), two(api.IZero, d, 0)}
}

func divided(op, d, a, b int) []api.IA {
	result := 0
	if op == api.NRemu || op == api.NRem {
		result = 2
	}
	if op == api.NDivu || op == api.NRemu {
		return []api.IA{move(0, a), {Op: api.IMovI, D: 2, Size: 32}, two(api.IDiv, b, 0), move(d, result)}
	}
	return []api.IA{move(0, a), two(api.ICdq, 0, 0), two(api.IIDiv, b, 0), move(d, result)}
}

// memory loads or stores; without a register, the address is loaded into one.
func (s secondSet) memory(x api.Code, d, a, b int) []api.IA {
	var l []api.IA
	imm := int(int32(x.Imm))
	if x.A < 0 {
		l = []api.IA{{Op: api.IMovI, D: 2, Size: 32, Imm: int(x.Imm)}}
		a, imm = 2, 0
	}
	switch x.Op {
	case api.NLb:
		return append(l, api.IA{Op: api.ILoadB, D: d, S: a, Size: 32, Imm: imm})
	case api.NLh:
		return append(l, api.IA{Op: api.ILoadH, D: d, S: a, Size: 32, Imm: imm})
	case api.NLw:
		return append(l, api.IA{Op: api.ILoad, D: d, S: a, Size: 32, Imm: imm})
	case api.NSb:
		return append(l, move(0, b), api.IA{Op: api.IStoreB, D: a, Size: 32, Imm: imm})
	case api.NSh:
		return append(l, api.IA{Op: api.IStore, D: a, S: b, Size: 16, Imm: imm})
	}
	return append(l, api.IA{Op: api.IStore, D: a, S: b, Size: 32, Imm: imm})
}
