package place

import (
	"backstay/api"
	"backstay/rv"
)

// firstSet is the set of chapter 18. The registers of the code are those from 5 on; the register 15 is used for a moment.
type firstSet struct{}

const (
	firstRegister = 5
	firstMoment   = 15
)

func (firstSet) registers() int { return 10 }

func (firstSet) isBranch(op int) bool { return op == api.NBnz }

func (firstSet) reaches(op, distance int) bool {
	return distance >= -4096 && distance <= 4094
}

func (s firstSet) code(x api.Code, isLong bool, distance int) []byte {
	b, _ := rv.Bytes(s.list(x, isLong, distance))
	return b
}

// register is that of the set; -1 is the one that is always 0.
func (firstSet) register(r int) int {
	if r < 0 {
		return 0
	}
	return r + firstRegister
}

func isShort(n int) bool {
	return n >= -2048 && n <= 2047
}

// halves returns what RLui loads, and what is added to it, of a number.
func halves(n uint32) (int, int) {
	high := (n + 0x800) >> 12
	return int(high), int(int32(n - high<<12))
}

func (s firstSet) list(x api.Code, isLong bool, distance int) []api.RV {
	d, a, b := s.register(x.D), s.register(x.A), s.register(x.B)
	switch {
	case x.Op == api.NLi:
		return number(d, x.Imm)
	case x.Op == api.NMv:
		return []api.RV{{Op: api.RAddi, D: d, A: a}}
	case x.Op == api.NSeq:
		return []api.RV{{Op: api.RSub, D: firstMoment, A: a, B: b}, {Op: api.RSltiu, D: d, A: firstMoment, Imm: 1}}
	case x.Op <= api.NSltu:
		return []api.RV{{Op: firstOp(x.Op), D: d, A: a, B: b}}
	case x.Op <= api.NSw:
		return s.memory(x, d, a, b)
	case x.Op == api.NJmp:
		return []api.RV{{Op: api.RJal, Imm: distance}}
	case x.Op == api.NBnz && isLong:
		return []api.RV{{Op: api.RBeq, A: a, Imm: 8}, {Op: api.RJal, Imm: distance - 4}}
	case x.Op == api.NBnz:
		return []api.RV{{Op: api.RBne, A: a, Imm: distance}}
	case x.Op == api.NHalt:
		return []api.RV{{Op: api.REbreak}}
	}
	return []api.RV{{Op: api.REcall}}
}

// firstOp returns the operation for one of NAdd to NSltu.
func firstOp(op int) int {
	return [15]int{
		api.RAdd, api.RSub, api.RMul, api.RDivu, api.RRemu, api.RDiv, api.RRem,
		api.RAnd, api.ROr, api.RXor, api.RSll, api.RSrl, api.RSra, api.RSlt, api.RSltu,
	}[op-api.NAdd]
}

func number(d int, n uint32) []api.RV {
	if isShort(int(int32(n))) {
		return []api.RV{{Op: api.RAddi, D: d, Imm: int(int32(n))}}
	}
	high, low := halves(n)
	return []api.RV{{Op: api.RLui, D: d, Imm: high}, {Op: api.RAddi, D: d, A: d, Imm: low}}
}

// memory loads or stores; a number that is too large for the instruction is added before.
func (s firstSet) memory(x api.Code, d, a, b int) []api.RV {
	var l []api.RV
	imm := int(int32(x.Imm))
	if !isShort(imm) {
		high, low := halves(x.Imm)
		l = []api.RV{{Op: api.RLui, D: firstMoment, Imm: high}, {Op: api.RAdd, D: firstMoment, A: firstMoment, B: a}}
		a, imm = firstMoment, low
	}
	if x.Op >= api.NSb {
		return append(l, api.RV{Op: x.Op - api.NSb + api.RSb, A: a, B: b, Imm: imm})
	}
	return append(l, api.RV{Op: x.Op - api.NLb + api.RLbu, D: d, A: a, Imm: imm})
}
