package ia

import (
	"slices"

	"backstay/api"
)

// engine is a machine that executes; size is that of the instruction, in bits.
type engine struct {
	api.Machine
	size int
}

// check returns what is wrong with a machine that is to execute.
func check(m api.Machine) api.Errno {
	if len(m.Mem) > api.MaxMemory || m.Flags < 0 || m.Flags > 15 {
		return api.ErrArg
	}
	if m.End != api.Runs {
		return api.ErrState
	}
	return api.OK
}

func newEngine(m api.Machine) *engine {
	m.Mem = slices.Clone(m.Mem)
	return &engine{Machine: m}
}

// Step executes one instruction.
func Step(m api.Machine) (api.Machine, api.Errno) {
	if e := check(m); e != api.OK {
		return api.Machine{}, e
	}
	g := newEngine(m)
	g.step()
	return g.Machine, api.OK
}

// Run executes instructions until the end, or so many.
func Run(m api.Machine, most int) (api.Machine, int, api.Errno) {
	e := check(m)
	if e == api.ErrArg || most < 0 || most > api.MaxRun {
		return api.Machine{}, 0, api.ErrArg
	}
	if e != api.OK {
		return api.Machine{}, 0, e
	}
	g := newEngine(m)
	n := 0
	for n < most && g.End == api.Runs {
		g.step()
		if g.End != api.Fault {
			n++
		}
	}
	if g.End == api.Runs {
		g.End = api.TooLong
	}
	return g.Machine, n, api.OK
}

// step executes one instruction.
func (g *engine) step() {
	at := min(int(g.At), len(g.Mem))
	x, n, is := Decode(g.Mem[at:])
	g.size = x.Size
	if !is || !g.execute(x, g.At+uint32(n)) {
		g.End = api.Fault
	}
}

// all is the greatest word of the size.
func (g *engine) all() uint32 {
	return uint32(1<<g.size - 1)
}

// get returns the word of a register.
func (g *engine) get(r int) uint32 {
	return g.Regs[r] & g.all()
}

// set writes a word into a register; what is above it stays.
func (g *engine) set(r int, x uint32) {
	g.Regs[r] = g.Regs[r]&^g.all() | x&g.all()
}

// bytes returns some bytes of the memory at a register and a number, if they are all there.
func (g *engine) bytes(r, imm, n int) ([]byte, bool) {
	at := int(g.Regs[r] + uint32(imm))
	if at+n > len(g.Mem) {
		return nil, false
	}
	return g.Mem[at : at+n], true
}

// load loads some bytes into a register of so many bits.
func (g *engine) load(x api.IA, n int) bool {
	b, is := g.bytes(x.S, x.Imm, n)
	if !is {
		return false
	}
	word := uint32(0)
	for i, c := range b {
		word |= uint32(c) << (8 * i)
	}
	g.set(x.D, word)
	return true
}

func (g *engine) store(x api.IA, n int) bool {
	b, is := g.bytes(x.D, x.Imm, n)
	if !is {
		return false
	}
	for i := range b {
		b[i] = byte(g.Regs[x.S] >> (8 * i))
	}
	return true
}

// execute executes an instruction that ends at next; it is false if it is a fault.
func (g *engine) execute(x api.IA, next uint32) bool {
	switch x.Op {
	case api.IMov:
		g.set(x.D, g.get(x.S))
	case api.IMovI:
		g.set(x.D, uint32(x.Imm))
	case api.ILoad, api.ILoadB, api.ILoadH, api.IStore, api.IStoreB:
		if !g.moves(x) {
			return false
		}
	case api.IAdd, api.IOr, api.IAnd, api.ISub, api.IXor, api.ICmp, api.ITest:
		g.arithmetic(x.Op, x.D, g.get(x.S))
	case api.IAddI, api.IOrI, api.IAndI, api.ISubI, api.IXorI, api.ICmpI:
		g.arithmetic(x.Op-api.IAddI+api.IAdd, x.D, uint32(x.Imm))
	case api.IMul:
		g.multiply(x)
	case api.IShl, api.IShr, api.ISar:
		g.shift(x)
	case api.IDiv, api.IIDiv:
		if !g.divide(x) {
			return false
		}
	case api.IJcc:
		if holds(x.S, g.Flags) {
			next += uint32(x.Imm)
		}
	case api.IJmp:
		next += uint32(x.Imm)
	case api.IHlt:
		g.End, next = api.Halted, g.At
	case api.IUd:
		g.End, next = api.Stopped, g.At
	default:
		g.single(x)
	}
	g.At = next
	return true
}

// moves loads or stores.
func (g *engine) moves(x api.IA) bool {
	switch x.Op {
	case api.ILoad:
		return g.load(x, x.Size/8)
	case api.ILoadB:
		return g.load(x, 1)
	case api.ILoadH:
		return g.load(x, 2)
	case api.IStore:
		return g.store(x, x.Size/8)
	}
	return g.store(x, 1)
}

// single executes what changes one register, and asks for no more than flags.
func (g *engine) single(x api.IA) {
	switch x.Op {
	case api.INot:
		g.set(x.D, ^g.get(x.D))
	case api.INeg:
		d := g.get(x.D)
		g.set(x.D, 0)
		g.arithmetic(api.ISub, x.D, d)
	case api.ICdq:
		g.Regs[2] = uint32(int32(g.Regs[0]) >> 31)
	case api.ISet:
		g.Regs[x.D] &^= 255
		if holds(x.S, g.Flags) {
			g.Regs[x.D]++
		}
	case api.IZero:
		g.Regs[x.D] = g.Regs[x.S] & 255
	case api.ICMov:
		if holds(x.Imm, g.Flags) {
			g.Regs[x.D] = g.Regs[x.S]
		}
	}
}

// flag is a flag if something is so.
func flag(is bool, f int) int {
	if is {
		return f
	}
	return 0
}

// results are the flags that a result tells by itself.
func (g *engine) results(x uint32) int {
	return flag(x == 0, zero) | flag(x>>(g.size-1) == 1, sign)
}

// arithmetic does an operation with the register d and a word.
func (g *engine) arithmetic(op, d int, b uint32) {
	a := g.get(d)
	s, t := signed(int(a), g.size), signed(int(b), g.size)
	var word uint32
	flags := 0
	switch op {
	case api.IAdd:
		word = (a + b) & g.all()
		flags = flag(uint64(a)+uint64(b) > uint64(g.all()), carry) | flag(!isSigned(s+t, g.size), overflow)
	case api.ISub, api.ICmp:
		word = (a - b) & g.all()
		flags = flag(a < b, carry) | flag(!isSigned(s-t, g.size), overflow)
	case api.IOr:
		word = a | b
	case api.IXor:
		word = a ^ b
	default:
		word = a & b
	}
	g.Flags = flags | g.results(word)
	if op != api.ICmp && op != api.ITest {
		g.set(d, word)
	}
}

func (g *engine) multiply(x api.IA) {
	product := signed(int(g.get(x.D)), 32) * signed(int(g.get(x.S)), 32)
	g.Flags &^= carry | overflow
	if !isSigned(product, 32) {
		g.Flags |= carry | overflow
	}
	g.set(x.D, uint32(product))
}

func (g *engine) shift(x api.IA) {
	by := int(g.Regs[1] % 32)
	if by == 0 {
		return
	}
	d := int(g.get(x.D))
	s := signed(d, g.size)
	word, out := s>>by, s>>(by-1)&1
	switch x.Op {
	case api.IShl:
		// Bit 63 is never reached: a word has at most 32 bits, and is shifted by at most 31.
		word, out = d<<by, d<<by>>g.size&1
	case api.IShr:
		word, out = d>>by, d>>(by-1)&1
	}
	result := uint32(word) & g.all()
	g.Flags = g.results(result) | flag(out == 1, carry)
	g.set(x.D, result)
}

// divide divides the registers 2 and 0, taken together.
func (g *engine) divide(x api.IA) bool {
	high, d := g.Regs[2], g.Regs[x.D]
	if d == 0 {
		return false
	}
	whole := uint64(high)<<32 | uint64(g.Regs[0])
	if x.Op == api.IDiv {
		if high >= d {
			return false
		}
		g.Regs[0], g.Regs[2] = uint32(whole/uint64(d)), uint32(whole%uint64(d))
		return true
	}
	n, by := int(whole), signed(int(d), 32)
	if n == -1<<63 || !isSigned(n/by, 32) {
		return false
	}
	g.Regs[0], g.Regs[2] = uint32(n/by), uint32(n%by)
	return true
}
