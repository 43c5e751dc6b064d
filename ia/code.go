package ia

import (
	"bytes"

	"backstay/api"
)

// little returns a number as so many bits, the lowest byte first.
func little(n, bits int) []byte {
	var b []byte
	for at := 0; at < bits; at += 8 {
		b = append(b, byte(n>>at))
	}
	return b
}

// registers is the byte for two registers, or a number and a register.
func registers(r, m int) byte {
	return byte(0xc0 + 8*r + m)
}

// memory is the bytes for a register and memory at another one plus a number.
func memory(r, m, imm int) []byte {
	return append([]byte{byte(0x80 + 8*r + m)}, little(imm, 32)...)
}

func writeOne(f format, x api.IA) []byte { return []byte{byte(f.op)} }

func writeOneLong(f format, x api.IA) []byte { return []byte{0x0f, byte(f.op)} }

func writeSD(f format, x api.IA) []byte { return []byte{byte(f.op), registers(x.S, x.D)} }

func writeND(f format, x api.IA) []byte { return []byte{byte(f.op), registers(f.n, x.D)} }

func writeDSLong(f format, x api.IA) []byte {
	return []byte{0x0f, byte(f.op), registers(x.D, x.S)}
}

func writeMove(f format, x api.IA) []byte {
	return append([]byte{byte(f.op + x.D)}, little(x.Imm, x.Size)...)
}

func writeLoad(f format, x api.IA) []byte {
	return append([]byte{byte(f.op)}, memory(x.D, x.S, x.Imm)...)
}

func writeLoadLong(f format, x api.IA) []byte {
	return append([]byte{0x0f, byte(f.op)}, memory(x.D, x.S, x.Imm)...)
}

func writeStore(f format, x api.IA) []byte {
	return append([]byte{byte(f.op)}, memory(x.S, x.D, x.Imm)...)
}

// writeNumber takes one byte for a number that has not more bits with its sign.
func writeNumber(f format, x api.IA) []byte {
	if isSigned(signed(x.Imm, x.Size), 8) {
		return []byte{0x83, registers(f.n, x.D), byte(x.Imm)}
	}
	return append([]byte{byte(f.op), registers(f.n, x.D)}, little(x.Imm, x.Size)...)
}

func writeSet(f format, x api.IA) []byte {
	return []byte{0x0f, byte(f.op + x.S), registers(0, x.D)}
}

func writeMoveIf(f format, x api.IA) []byte {
	return []byte{0x0f, byte(f.op + x.Imm), registers(x.D, x.S)}
}

func writeJumpIf(f format, x api.IA) []byte {
	if x.Size == 8 {
		return []byte{byte(f.op + x.S), byte(x.Imm)}
	}
	return append([]byte{0x0f, byte(0x80 + x.S)}, little(x.Imm, 32)...)
}

func writeJump(f format, x api.IA) []byte {
	if x.Size == 8 {
		return []byte{byte(f.op), byte(x.Imm)}
	}
	return append([]byte{0xe9}, little(x.Imm, 32)...)
}

// signed is a number of some bits with its sign.
func signed(n, bits int) int {
	n &= 1<<bits - 1
	if n >= 1<<(bits-1) {
		n -= 1 << bits
	}
	return n
}

// input is bytes from which an instruction is read; behind the end there are zeros.
type input struct {
	b  []byte
	at int
}

func (in *input) next(bits int) int {
	n := 0
	for at := 0; at < bits; at += 8 {
		if in.at < len(in.b) {
			n |= int(in.b[in.at]) << at
		}
		in.at++
	}
	return n
}

// Decode returns the instruction with which bytes begin.
func Decode(b []byte) (api.IA, int, bool) {
	in := &input{b: b}
	x := api.IA{Size: 32}
	first := in.next(8)
	if first == 0x66 {
		x.Size = 16
		first = in.next(8)
	}
	if first == 0x0f {
		in.readLong(&x, in.next(8))
	} else {
		in.read(&x, first)
	}
	// What was read is right if it is written as these bytes.
	if Validate(x) != api.OK {
		return api.IA{}, 0, false
	}
	written := encode(x)
	if !bytes.HasPrefix(b, written) {
		return api.IA{}, 0, false
	}
	return x, len(written), true
}

// pair reads the byte for two registers; with memory, a number follows.
func (in *input) pair(x *api.IA) (int, int, bool) {
	n := in.next(8)
	r, m, far := n>>3&7, n&7, n>>6 == 2
	if far {
		x.Imm = signed(in.next(32), 32)
	}
	return r, m, far
}

// plain returns the operation that a first byte alone tells, or -1.
func plain(first int) int {
	switch first {
	case 0x01:
		return api.IAdd
	case 0x09:
		return api.IOr
	case 0x21:
		return api.IAnd
	case 0x29:
		return api.ISub
	case 0x31:
		return api.IXor
	case 0x39:
		return api.ICmp
	case 0x85:
		return api.ITest
	case 0x99:
		return api.ICdq
	case 0xf4:
		return api.IHlt
	case 0x90:
		return api.INop
	}
	return -1
}

// read reads an instruction whose first byte is known.
func (in *input) read(x *api.IA, first int) {
	far := false
	x.Op = plain(first)
	switch {
	case x.Op == api.ICdq || x.Op == api.IHlt || x.Op == api.INop:
	case first&0xf8 == 0xb8:
		x.Op, x.D, x.Imm = api.IMovI, first&7, in.next(x.Size)
	case first == 0x8b:
		x.Op = api.ILoad
		x.D, x.S, _ = in.pair(x)
	case first == 0x88:
		x.Op = api.IStoreB
		x.S, x.D, _ = in.pair(x)
	case first == 0x89:
		x.S, x.D, far = in.pair(x)
		x.Op = api.IMov
		if far {
			x.Op = api.IStore
		}
	case first&0xf0 == 0x70:
		x.Op, x.S, x.Size, x.Imm = api.IJcc, first&15, 8, signed(in.next(8), 8)
	case first == 0xeb:
		x.Op, x.Size, x.Imm = api.IJmp, 8, signed(in.next(8), 8)
	case first == 0xe9:
		x.Op, x.Imm = api.IJmp, signed(in.next(32), 32)
	case x.Op >= 0:
		x.S, x.D, _ = in.pair(x)
	default:
		in.readGroup(x, first)
	}
}

// readGroup reads an instruction that a number in place of a register tells.
func (in *input) readGroup(x *api.IA, first int) {
	n := 0
	n, x.D, _ = in.pair(x)
	switch first {
	case 0x81, 0x83:
		x.Op = [8]int{api.IAddI, api.IOrI, -1, -1, api.IAndI, api.ISubI, api.IXorI, api.ICmpI}[n]
		x.Imm = in.next(x.Size)
		if first == 0x83 {
			in.at -= x.Size / 8
			x.Imm = signed(in.next(8), 8) & (1<<x.Size - 1)
		}
	case 0xd3:
		x.Op = [8]int{-1, -1, -1, -1, api.IShl, api.IShr, -1, api.ISar}[n]
	case 0xf7:
		x.Op = [8]int{-1, -1, api.INot, api.INeg, -1, -1, api.IDiv, api.IIDiv}[n]
	}
}

// readLong reads an instruction behind 0x0f.
func (in *input) readLong(x *api.IA, second int) {
	far := false
	x.Op = -1
	switch {
	case second == 0x0b:
		x.Op = api.IUd
	case second == 0xb6:
		x.D, x.S, far = in.pair(x)
		x.Op = api.IZero
		if far {
			x.Op = api.ILoadB
		}
	case second == 0xb7:
		x.Op = api.ILoadH
		x.D, x.S, _ = in.pair(x)
	case second == 0xaf:
		x.Op = api.IMul
		x.D, x.S, _ = in.pair(x)
	case second&0xf0 == 0x90:
		x.Op = api.ISet
		_, x.D, _ = in.pair(x)
		x.S = second & 15
	case second&0xf0 == 0x40:
		x.Op = api.ICMov
		x.D, x.S, _ = in.pair(x)
		x.Imm = second & 15
	case second&0xf0 == 0x80:
		x.Op, x.S, x.Imm = api.IJcc, second&15, signed(in.next(32), 32)
	}
}

// List returns the instructions with which bytes begin, and how many bytes they have.
func List(b []byte) ([]api.IA, int) {
	var l []api.IA
	at := 0
	for {
		x, n, is := Decode(b[at:])
		if !is {
			return l, at
		}
		l = append(l, x)
		at += n
	}
}
