package pick

import (
	"slices"

	"backstay/api"
)

// machine executes neutral code.
type machine struct {
	p         api.Program
	regs      []uint32
	mem       []byte
	block, at int
	count     int
	end       int
}

// Execute returns the memory afterwards, how it ended, and how many instructions were executed.
func Execute(p api.Program, mem []byte, most int) ([]byte, int, int, api.Errno) {
	if e := Validate(p); e != api.OK {
		return nil, 0, 0, e
	}
	if len(mem) > api.MaxMemory || most < 0 || most > api.MaxRun {
		return nil, 0, 0, api.ErrArg
	}
	m := &machine{p: p, regs: make([]uint32, p.Regs), mem: slices.Clone(mem)}
	for m.end == api.Runs && m.count < most {
		m.step(p.Blocks[m.block][m.at])
		if m.end != api.Free && m.end != api.Fault {
			m.count++
		}
	}
	if m.end == api.Runs {
		m.end = api.TooLong
	}
	return m.mem, m.end, m.count, api.OK
}

func (m *machine) step(x api.Code) {
	m.at++
	switch {
	case x.Op == api.NLi:
		m.regs[x.D] = x.Imm
	case x.Op == api.NMv:
		m.regs[x.D] = m.regs[x.A]
	case x.Op >= api.NDivu && x.Op <= api.NRem:
		m.divide(x)
	case x.Op <= api.NSeq:
		m.regs[x.D] = compute(x.Op, m.regs[x.A], m.regs[x.B])
	case x.Op <= api.NSw:
		m.memory(x)
	case x.Op == api.NJmp || x.Op == api.NBnz && m.regs[x.A] != 0:
		m.block, m.at = x.To, 0
	case x.Op == api.NHalt:
		m.end = api.Halted
	case x.Op == api.NStop:
		m.end = api.Stopped
	}
}

func bit(is bool) uint32 {
	if is {
		return 1
	}
	return 0
}

func compute(op int, a, b uint32) uint32 {
	switch op {
	case api.NAdd:
		return a + b
	case api.NSub:
		return a - b
	case api.NMul:
		return a * b
	case api.NAnd:
		return a & b
	case api.NOr:
		return a | b
	case api.NXor:
		return a ^ b
	case api.NShl:
		return a << (b % 32)
	case api.NShr:
		return a >> (b % 32)
	case api.NSar:
		return uint32(int32(a) >> (b % 32))
	case api.NSlt:
		return bit(int32(a) < int32(b))
	case api.NSltu:
		return bit(a < b)
	}
	return bit(a == b)
}

func (m *machine) divide(x api.Code) {
	a, b := m.regs[x.A], m.regs[x.B]
	signed := x.Op == api.NDiv || x.Op == api.NRem
	if b == 0 || signed && a == 1<<31 && b == 1<<32-1 {
		m.end = api.Free
		return
	}
	switch x.Op {
	case api.NDivu:
		m.regs[x.D] = a / b
	case api.NRemu:
		m.regs[x.D] = a % b
	case api.NDiv:
		m.regs[x.D] = uint32(int32(a) / int32(b))
	default:
		m.regs[x.D] = uint32(int32(a) % int32(b))
	}
}

// memory loads or stores.
func (m *machine) memory(x api.Code) {
	at := x.Imm
	if x.A >= 0 {
		at += m.regs[x.A]
	}
	n := [6]int{1, 2, 4, 1, 2, 4}[x.Op-api.NLb]
	if int(at)+n > len(m.mem) {
		m.end = api.Fault
		return
	}
	b := m.mem[at : int(at)+n]
	if x.Op <= api.NLw {
		m.regs[x.D] = number(b)
		return
	}
	for i := range b {
		b[i] = byte(m.regs[x.B] >> (8 * i))
	}
}
