package rv_test

import (
	"slices"
	"testing"

	"backstay/api"
	"backstay/rv"
)

// P18.1: the words that the chapter names, and some of each format.
func TestWords(t *testing.T) {
	for _, c := range []struct {
		x    api.RV
		word uint32
		text string
	}{
		{api.RV{Op: api.RAddi, D: 5, Imm: -1}, 0xfff00293, "addi x5 x0 -1"},
		{api.RV{Op: api.RBne, A: 5, Imm: -4}, 0xfe029ee3, "bne x5 x0 -4"},
		{api.RV{Op: api.RAdd, D: 1, A: 2, B: 3}, 0x003100b3, "add x1 x2 x3"},
		{api.RV{Op: api.RSub, D: 31, A: 30, B: 29}, 0x41df0fb3, "sub x31 x30 x29"},
		{api.RV{Op: api.RMul, D: 1, A: 1, B: 1}, 0x021080b3, "mul x1 x1 x1"},
		{api.RV{Op: api.RRemu, D: 1, A: 1, B: 1}, 0x0210f0b3, "remu x1 x1 x1"},
		{api.RV{Op: api.RSrai, D: 1, A: 2, Imm: 31}, 0x41f15093, "srai x1 x2 31"},
		{api.RV{Op: api.RLui, D: 7, Imm: 0xfffff}, 0xfffff3b7, "lui x7 1048575"},
		{api.RV{Op: api.RLw, D: 3, A: 4, Imm: 2047}, 0x7ff22183, "lw x3 x4 2047"},
		{api.RV{Op: api.RSw, A: 2, B: 3, Imm: -2048}, 0x80312023, "sw x2 x3 -2048"},
		{api.RV{Op: api.RSb, A: 2, B: 3, Imm: 31}, 0x00310fa3, "sb x2 x3 31"},
		{api.RV{Op: api.RBgeu, A: 1, B: 2, Imm: 4094}, 0x7e20ffe3, "bgeu x1 x2 4094"},
		{api.RV{Op: api.RBeq, A: 1, B: 2, Imm: -4096}, 0x80208063, "beq x1 x2 -4096"},
		{api.RV{Op: api.RJal, D: 1, Imm: -2}, 0xfffff0ef, "jal x1 -2"},
		{api.RV{Op: api.RJal, Imm: 0x800}, 0x0010006f, "jal x0 2048"},
		{api.RV{Op: api.RJal, Imm: 0xff000}, 0x000ff06f, "jal x0 1044480"},
		{api.RV{Op: api.RJalr, D: 1, A: 2, Imm: -1}, 0xfff100e7, "jalr x1 x2 -1"},
		{api.RV{Op: api.REcall}, 0x73, "ecall"},
		{api.RV{Op: api.REbreak}, 0x100073, "ebreak"},
	} {
		if word, e := rv.Encode(c.x); word != c.word || e != api.OK {
			t.Errorf("%s: %#x, %v", c.text, word, e)
		}
		if x, is := rv.Decode(c.word); x != c.x || !is {
			t.Error(c.text, x, is)
		}
		if s, e := rv.Text(c.x); s != c.text || e != api.OK {
			t.Error(c.text, s, e)
		}
		if x, e := rv.Parse(c.text); x != c.x || e != api.OK {
			t.Error(c.text, x, e)
		}
	}
}

// What is decoded is encoded to its word, and texts are read as they are written.
func TestAllWords(t *testing.T) {
	seed, count := uint32(1), 0
	for i := range 300000 {
		seed = seed*1664525 + 1013904223
		word := seed
		if i%2 == 0 {
			word = seed&^0x7f | []uint32{0x33, 0x13, 0x37, 0x03, 0x23, 0x63, 0x6f, 0x67, 0x73}[i/2%9]
		}
		if i%4 == 0 {
			word &= 0x41ffffff
		}
		x, is := rv.Decode(word)
		if !is {
			if x != (api.RV{}) {
				t.Error(word, x)
			}
			continue
		}
		count++
		back, e := rv.Encode(x)
		s, _ := rv.Text(x)
		y, e2 := rv.Parse(s)
		if back != word || y != x || e != api.OK || e2 != api.OK {
			t.Errorf("%#x: %v %#x %v", word, x, back, y)
		}
	}
	if count < 50000 {
		t.Error(count)
	}
}

func TestErrors(t *testing.T) {
	for i, x := range []api.RV{
		{Op: -1}, {Op: 41}, {Op: api.RAdd, D: 32}, {Op: api.RAdd, A: -1}, {Op: api.RAdd, B: 32}, {Op: api.RAdd, Imm: 1},
		{Op: api.RAddi, B: 1}, {Op: api.RAddi, Imm: 2048}, {Op: api.RAddi, Imm: -2049}, {Op: api.RSlli, Imm: 32}, {Op: api.RSlli, Imm: -1},
		{Op: api.RLui, A: 1}, {Op: api.RLui, Imm: 1 << 20}, {Op: api.RLui, Imm: -1}, {Op: api.RSw, D: 1}, {Op: api.RSw, Imm: 2048},
		{Op: api.RBeq, D: 1}, {Op: api.RBeq, Imm: 1}, {Op: api.RBeq, Imm: 4096}, {Op: api.RBeq, Imm: -4098}, {Op: api.RBeq, Imm: -1},
		{Op: api.RJal, A: 1}, {Op: api.RJal, Imm: 1 << 20}, {Op: api.RJal, Imm: -1<<20 - 2}, {Op: api.RJal, Imm: 3},
		{Op: api.RJalr, B: 1}, {Op: api.REcall, D: 1}, {Op: api.REbreak, Imm: 1},
	} {
		_, e1 := rv.Encode(x)
		_, e2 := rv.Text(x)
		_, _, e3 := rv.Writes(x)
		_, e4 := rv.Bytes([]api.RV{{Op: api.REcall}, x})
		for _, e := range []api.Errno{rv.Validate(x), e1, e2, e3, e4} {
			if e != api.ErrArg {
				t.Error(i, x, e)
			}
		}
	}
	for _, s := range []string{"", "add", "add x1 x2", "add x1 x2 x3 x4", "add x1 x2 3", "add 1 x2 x3", "add x01 x2 x3", "add x1  x2 x3", " ecall", "ecall ", "Ecall", "addi x1 x2 +3", "addi x1 x2 -0", "addi x1 x2 2048", "addi x32 x2 1", "addi x1 x2 x3", "lui x1 -1", "jal x1 3"} {
		if x, e := rv.Parse(s); x != (api.RV{}) || e != api.ErrSyntax {
			t.Error(s, x, e)
		}
	}
	for _, word := range []uint32{0, 1<<32 - 1, 0x200073, 0x73 | 1<<7, 0x40001013, 0x02001013, 0x00006063 &^ 0x4000, 0x1067, 0x00003003, 0x00003023} {
		if x, is := rv.Decode(word); is || x != (api.RV{}) {
			t.Errorf("%#x: %v", word, x)
		}
	}
}

func TestBytesAndWrites(t *testing.T) {
	l := []api.RV{{Op: api.RAddi, D: 5, Imm: -1}, {Op: api.REbreak}}
	b, e := rv.Bytes(l)
	if !slices.Equal(b, []byte{0x93, 0x02, 0xf0, 0xff, 0x73, 0, 0x10, 0}) || e != api.OK {
		t.Error(b, e)
	}
	for _, c := range []struct {
		more []byte
		n    int
	}{{nil, 2}, {[]byte{0x73, 0, 0}, 2}, {[]byte{0, 0, 0, 0, 0x73, 0, 0, 0}, 2}, {[]byte{0x73, 0, 0, 0}, 3}} {
		if got, n := rv.List(append(slices.Clone(b), c.more...)); len(got) != c.n || n != 4*c.n || !slices.Equal(got[:2], l) {
			t.Error(c, got, n)
		}
	}
	for x, want := range map[api.RV]int{{Op: api.RAdd, D: 3}: 3, {Op: api.RAdd}: 0, {Op: api.RLw, D: 31}: 31, {Op: api.RSw, A: 1, B: 2}: 0, {Op: api.RJal, D: 1}: 1, {Op: api.RJalr, D: 2}: 2, {Op: api.RBeq, A: 3}: 0, {Op: api.REcall}: 0, {Op: api.RLui, D: 9}: 9} {
		if d, is, e := rv.Writes(x); d != want || is != (want > 0) || e != api.OK {
			t.Error(x, d, is, e)
		}
	}
}

func machine(t *testing.T, l ...api.RV) api.Machine {
	t.Helper()
	b, e := rv.Bytes(l)
	if e != api.OK {
		t.Fatal(l, e)
	}
	return api.Machine{Mem: append(make([]byte, 16), b...), At: 16, Flags: 77}
}

// P18.3: each operation.
func TestStep(t *testing.T) {
	const low, all = 1 << 31, 1<<32 - 1
	for _, c := range []struct {
		op   int
		a, b uint32
		want uint32
	}{
		{api.RAdd, all, 2, 1}, {api.RSub, 1, 2, all}, {api.RSll, 1, 33, 2}, {api.RSlt, all, 0, 1}, {api.RSltu, all, 0, 0},
		{api.RXor, 6, 3, 5}, {api.RSrl, low, 31, 1}, {api.RSra, low, 31, all}, {api.ROr, 6, 3, 7}, {api.RAnd, 6, 3, 2},
		{api.RMul, all, all, 1}, {api.RDiv, low, all, low}, {api.RDiv, all - 6, 2, all - 2}, {api.RDiv, 7, 0, all}, {api.RDivu, 7, 0, all}, {api.RDivu, all, 2, all / 2},
		{api.RRem, low, all, 0}, {api.RRem, all - 6, 2, all}, {api.RRem, 7, 0, 7}, {api.RRemu, 7, 0, 7}, {api.RRemu, all, 2, 1},
	} {
		m := machine(t, api.RV{Op: c.op, D: 3, A: 1, B: 2})
		m.Regs[1], m.Regs[2] = c.a, c.b
		n, e := rv.Step(m)
		if n.Regs[3] != c.want || n.At != 20 || n.End != api.Runs || n.Flags != 77 || e != api.OK {
			t.Error(c, n.Regs[3], n.At, n.End, e)
		}
	}
	for _, c := range []struct {
		op   int
		a    uint32
		imm  int
		want uint32
	}{
		{api.RAddi, 1, -2, all}, {api.RSlti, 0, -1, 0}, {api.RSltiu, 0, -1, 1}, {api.RXori, 5, -1, all - 5}, {api.ROri, 1, -2, all}, {api.RAndi, 5, -2, 4},
		{api.RSlli, 3, 31, low}, {api.RSrli, low, 31, 1}, {api.RSrai, low, 31, all},
	} {
		m := machine(t, api.RV{Op: c.op, D: 1, A: 1, Imm: c.imm})
		m.Regs[1] = c.a
		if n, e := rv.Step(m); n.Regs[1] != c.want || e != api.OK {
			t.Error(c, n.Regs[1], e)
		}
	}
	m := machine(t, api.RV{Op: api.RLui, D: 1, Imm: 0xfffff})
	if n, _ := rv.Step(m); n.Regs[1] != 0xfffff000 {
		t.Error(n.Regs[1])
	}
	m = machine(t, api.RV{Op: api.RAddi, Imm: 5})
	if n, _ := rv.Step(m); n.Regs[0] != 0 || n.At != 20 {
		t.Error("register 0 is always 0")
	}
}

func TestBranches(t *testing.T) {
	for _, c := range []struct {
		op    int
		a, b  uint32
		taken bool
	}{
		{api.RBeq, 1, 1, true}, {api.RBeq, 1, 2, false}, {api.RBne, 1, 2, true}, {api.RBne, 1, 1, false}, {api.RBlt, 1<<32 - 1, 0, true}, {api.RBlt, 0, 0, false},
		{api.RBge, 0, 0, true}, {api.RBge, 1 << 31, 0, false}, {api.RBltu, 1<<32 - 1, 0, false}, {api.RBltu, 0, 1, true}, {api.RBgeu, 1<<32 - 1, 0, true}, {api.RBgeu, 0, 1, false},
	} {
		m := machine(t, api.RV{Op: c.op, A: 1, B: 2, Imm: -8})
		m.Regs[1], m.Regs[2] = c.a, c.b
		n, _ := rv.Step(m)
		if want := map[bool]uint32{true: 8, false: 20}[c.taken]; n.At != want {
			t.Error(c, n.At)
		}
	}
	m := machine(t, api.RV{Op: api.RJal, D: 1, Imm: -16})
	if n, _ := rv.Step(m); n.At != 0 || n.Regs[1] != 20 {
		t.Error(n.At, n.Regs[1])
	}
	m = machine(t, api.RV{Op: api.RJalr, D: 1, A: 1, Imm: 3})
	m.Regs[1] = 1<<32 - 2
	n, _ := rv.Step(m)
	if n.At != 0 || n.Regs[1] != 20 {
		t.Error(n.At, n.Regs[1])
	}
	n.At = 2
	if n, e := rv.Step(n); n.End != api.Fault || n.At != 2 || e != api.OK {
		t.Error(n.End, n.At, e)
	}
	for op, end := range map[int]int{api.REbreak: api.Halted, api.REcall: api.Stopped} {
		if n, _ := rv.Step(machine(t, api.RV{Op: op})); n.End != end || n.At != 16 {
			t.Error(op, n.End, n.At)
		}
	}
}

func TestMemory(t *testing.T) {
	for _, c := range []struct {
		op   int
		at   uint32
		imm  int
		want uint32
		is   bool
	}{
		{api.RLbu, 0, 3, 0xf4, true}, {api.RLhu, 3, -1, 0xf4f3, true}, {api.RLw, 1<<32 - 1, 1, 0xf4f3f2f1, true}, {api.RLw, 17, 0, 0, false},
		{api.RLbu, 19, 0, 0, true}, {api.RLbu, 20, 0, 0, false}, {api.RLhu, 19, 0, 0, false}, {api.RLw, 1<<32 - 4, 0, 0, false},
	} {
		m := machine(t, api.RV{Op: c.op, D: 2, A: 1, Imm: c.imm})
		copy(m.Mem, []byte{0xf1, 0xf2, 0xf3, 0xf4})
		m.Regs[1] = c.at
		n, e := rv.Step(m)
		switch {
		case e != api.OK || c.is != (n.End == api.Runs):
			t.Error(c, n.End, e)
		case !c.is && (n.At != 16 || n.Regs[2] != 0):
			t.Error("a fault changes nothing", n)
		case c.is && n.Regs[2] != c.want:
			t.Errorf("%v: %#x", c, n.Regs[2])
		}
	}
	for op, want := range map[int][]byte{api.RSb: {4, 9, 9, 9, 9}, api.RSh: {4, 3, 9, 9, 9}, api.RSw: {4, 3, 2, 1, 9}} {
		m := machine(t, api.RV{Op: op, A: 1, B: 2, Imm: 1})
		copy(m.Mem[1:], []byte{9, 9, 9, 9, 9})
		m.Regs[2] = 0x01020304
		n, _ := rv.Step(m)
		if !slices.Equal(n.Mem[1:6], want) || m.Mem[1] != 9 {
			t.Error(op, n.Mem[1:6], m.Mem[1])
		}
	}
}

func TestRun(t *testing.T) {
	// Counts register 1 down from 5.
	m := machine(t, api.RV{Op: api.RAddi, D: 1, Imm: 5}, api.RV{Op: api.RAddi, D: 1, A: 1, Imm: -1}, api.RV{Op: api.RBne, A: 1, Imm: -4}, api.RV{Op: api.REbreak})
	n, count, e := rv.Run(m, 100)
	if n.End != api.Halted || count != 12 || n.Regs[1] != 0 || e != api.OK {
		t.Error(n.End, count, e)
	}
	for most := range 14 {
		a, first, _ := rv.Run(m, most)
		if want := min(most, 12); first != want || (a.End == api.TooLong) != (most < 12) {
			t.Error(most, first, a.End)
		}
		if a.End != api.TooLong {
			continue
		}
		a.End = api.Runs
		b, second, _ := rv.Run(a, 100)
		if first+second != 12 || b.Regs != n.Regs || b.At != n.At || !slices.Equal(b.Mem, n.Mem) {
			t.Error(most, first, second)
		}
	}
	fault := machine(t, api.RV{Op: api.RAddi, D: 1, Imm: 5})
	if n, count, _ := rv.Run(fault, 100); n.End != api.Fault || count != 1 || n.At != 20 {
		t.Error(n.End, count, n.At)
	}
	bad := func(change func(m *api.Machine), most int, want api.Errno) {
		t.Helper()
		m := machine(t, api.RV{Op: api.REbreak})
		change(&m)
		n, count, e := rv.Run(m, most)
		_, e2 := rv.Step(m)
		if e != want || count != 0 || n.Mem != nil || most <= api.MaxRun && most >= 0 && e2 != want {
			t.Error(e, e2, want)
		}
	}
	bad(func(m *api.Machine) { m.Mem = make([]byte, api.MaxMemory+1) }, 1, api.ErrArg)
	bad(func(m *api.Machine) { m.Regs[0] = 1; m.End = api.Halted }, 1, api.ErrArg)
	bad(func(m *api.Machine) { m.End = api.Halted }, 1, api.ErrState)
	bad(func(m *api.Machine) { m.End = api.Halted }, -1, api.ErrArg)
	bad(func(m *api.Machine) {}, api.MaxRun+1, api.ErrArg)
	if n, count, e := rv.Run(machine(t), 0); n.End != api.TooLong || count != 0 || e != api.OK {
		t.Error(n.End, count, e)
	}
}
