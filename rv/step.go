package rv

import (
	"slices"

	"backstay/api"
)

// check returns what is wrong with a machine that is to execute.
func check(m api.Machine) api.Errno {
	if len(m.Mem) > api.MaxMemory || m.Regs[0] != 0 {
		return api.ErrArg
	}
	if m.End != api.Runs {
		return api.ErrState
	}
	return api.OK
}

// Step executes one instruction.
func Step(m api.Machine) (api.Machine, api.Errno) {
	if e := check(m); e != api.OK {
		return api.Machine{}, e
	}
	m.Mem = slices.Clone(m.Mem)
	step(&m, newOperations())
	return m, api.OK
}

// Run executes instructions until the end, or so many.
func Run(m api.Machine, most int) (api.Machine, int, api.Errno) {
	e := check(m)
	if e == api.ErrArg || most < 0 || most > api.MaxRun {
		return api.Machine{}, 0, api.ErrArg
	}
	if e != api.OK {
		return api.Machine{}, 0, e
	}
	m.Mem = slices.Clone(m.Mem)
	known := newOperations()
	n := 0
	for n < most && m.End == api.Runs {
		step(&m, known)
		if m.End != api.Fault {
			n++
		}
	}
	if m.End == api.Runs {
		m.End = api.TooLong
	}
	return m, n, api.OK
}

// bytes returns some bytes of the memory, if they are all there.
func bytes(m *api.Machine, at uint32, n int) ([]byte, bool) {
	if int(at)+n > len(m.Mem) {
		return nil, false
	}
	return m.Mem[at : int(at)+n], true
}

// step executes one instruction of a machine that runs.
func step(m *api.Machine, known operations) {
	code, is := bytes(m, m.At, 4)
	if !is || m.At%4 != 0 {
		m.End = api.Fault
		return
	}
	x, is := known.decode(number(code))
	if !is || !execute(m, x) {
		m.End = api.Fault
	}
}

// execute executes an instruction; it is false if it is a fault.
func execute(m *api.Machine, x api.RV) bool {
	a, b, imm := m.Regs[x.A], m.Regs[x.B], uint32(x.Imm)
	next := m.At + 4
	switch {
	case x.Op <= api.RRemu:
		set(m, x.D, alu(x.Op, a, b))
	case x.Op <= api.RSrai:
		set(m, x.D, alu(plain(x.Op), a, imm))
	case x.Op == api.RLui:
		set(m, x.D, imm<<12)
	case x.Op <= api.RSw:
		if !memory(m, x, a+imm) {
			return false
		}
	case x.Op <= api.RBgeu:
		if taken(x.Op, a, b) {
			next = m.At + imm
		}
	case x.Op == api.RJal:
		set(m, x.D, next)
		next = m.At + imm
	case x.Op == api.RJalr:
		set(m, x.D, next)
		next = (a + imm) &^ 1
	case x.Op == api.REcall:
		m.End, next = api.Stopped, m.At
	default:
		m.End, next = api.Halted, m.At
	}
	m.At = next
	return true
}

func set(m *api.Machine, d int, x uint32) {
	if d != 0 {
		m.Regs[d] = x
	}
}

// memory loads or stores at an address.
func memory(m *api.Machine, x api.RV, at uint32) bool {
	size := [6]int{1, 2, 4, 1, 2, 4}[x.Op-api.RLbu]
	b, is := bytes(m, at, size)
	if !is {
		return false
	}
	if x.Op <= api.RLw {
		set(m, x.D, number(b))
		return true
	}
	for i := range b {
		b[i] = byte(m.Regs[x.B] >> (8 * i))
	}
	return true
}

// plain returns the operation over registers that does the same as one with a number.
func plain(op int) int {
	return [9]int{api.RAdd, api.RSlt, api.RSltu, api.RXor, api.ROr, api.RAnd, api.RSll, api.RSrl, api.RSra}[op-api.RAddi]
}

func bit(is bool) uint32 {
	if is {
		return 1
	}
	return 0
}

func alu(op int, a, b uint32) uint32 {
	switch op {
	case api.RAdd:
		return a + b
	case api.RSub:
		return a - b
	case api.RSll:
		return a << (b % 32)
	case api.RSlt:
		return bit(int32(a) < int32(b))
	case api.RSltu:
		return bit(a < b)
	case api.RXor:
		return a ^ b
	case api.RSrl:
		return a >> (b % 32)
	case api.RSra:
		return uint32(int32(a) >> (b % 32))
	case api.ROr:
		return a | b
	case api.RAnd:
		return a & b
	case api.RMul:
		return a * b
	}
	return divide(op, a, b)
}

// divide needs no word of its own for the lowest number by -1: int32 wraps around as it should.
func divide(op int, a, b uint32) uint32 {
	quotient := op == api.RDiv || op == api.RDivu
	switch {
	case b == 0 && quotient:
		return 1<<32 - 1
	case b == 0:
		return a
	case op == api.RDiv:
		return uint32(int32(a) / int32(b))
	case op == api.RDivu:
		return a / b
	case op == api.RRem:
		return uint32(int32(a) % int32(b))
	}
	return a % b
}

func taken(op int, a, b uint32) bool {
	switch op {
	case api.RBeq:
		return a == b
	case api.RBne:
		return a != b
	case api.RBlt:
		return int32(a) < int32(b)
	case api.RBge:
		return int32(a) >= int32(b)
	case api.RBltu:
		return a < b
	}
	return a >= b
}
