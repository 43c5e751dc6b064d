package ia_test

import (
	"bytes"
	"slices"
	"testing"

	"backstay/api"
	"backstay/ia"
)

// P19.1: bytes of each format.
func TestBytes(t *testing.T) {
	for _, c := range []struct {
		x api.IA
		b []byte
	}{
		{api.IA{Op: api.IAddI, Size: 32, Imm: 1<<32 - 1}, []byte{0x83, 0xc0, 0xff}},
		{api.IA{Op: api.IAddI, Size: 32, Imm: 128}, []byte{0x81, 0xc0, 0x80, 0, 0, 0}},
		{api.IA{Op: api.IAddI, Size: 32, Imm: 127}, []byte{0x83, 0xc0, 0x7f}},
		{api.IA{Op: api.IAddI, Size: 16, Imm: 65535}, []byte{0x66, 0x83, 0xc0, 0xff}},
		{api.IA{Op: api.ICmpI, D: 7, Size: 16, Imm: 0x1234}, []byte{0x66, 0x81, 0xff, 0x34, 0x12}},
		{api.IA{Op: api.ILoad, S: 3, Size: 32, Imm: 16}, []byte{0x8b, 0x83, 0x10, 0, 0, 0}},
		{api.IA{Op: api.ILoad, D: 1, S: 3, Size: 16, Imm: -1}, []byte{0x66, 0x8b, 0x8b, 0xff, 0xff, 0xff, 0xff}},
		{api.IA{Op: api.IStore, D: 5, S: 4, Size: 32}, []byte{0x89, 0xa5, 0, 0, 0, 0}},
		{api.IA{Op: api.IMov, D: 1, S: 2, Size: 32}, []byte{0x89, 0xd1}},
		{api.IA{Op: api.IMovI, D: 7, Size: 32, Imm: 0x12345678}, []byte{0xbf, 0x78, 0x56, 0x34, 0x12}},
		{api.IA{Op: api.IMovI, D: 7, Size: 16, Imm: 0x1234}, []byte{0x66, 0xbf, 0x34, 0x12}},
		{api.IA{Op: api.ILoadB, D: 4, S: 1, Size: 32, Imm: 2}, []byte{0x0f, 0xb6, 0xa1, 2, 0, 0, 0}},
		{api.IA{Op: api.ILoadH, D: 4, S: 1, Size: 32, Imm: 2}, []byte{0x0f, 0xb7, 0xa1, 2, 0, 0, 0}},
		{api.IA{Op: api.IStoreB, D: 6, S: 3, Size: 32, Imm: 2}, []byte{0x88, 0x9e, 2, 0, 0, 0}},
		{api.IA{Op: api.IXor, D: 3, S: 3, Size: 32}, []byte{0x31, 0xdb}},
		{api.IA{Op: api.ITest, D: 1, S: 2, Size: 16}, []byte{0x66, 0x85, 0xd1}},
		{api.IA{Op: api.IMul, D: 1, S: 2, Size: 32}, []byte{0x0f, 0xaf, 0xca}},
		{api.IA{Op: api.ISar, D: 2, Size: 32}, []byte{0xd3, 0xfa}},
		{api.IA{Op: api.INeg, D: 2, Size: 16}, []byte{0x66, 0xf7, 0xda}},
		{api.IA{Op: api.IIDiv, D: 3, Size: 32}, []byte{0xf7, 0xfb}},
		{api.IA{Op: api.ICdq, Size: 32}, []byte{0x99}},
		{api.IA{Op: api.ISet, D: 3, S: 15, Size: 32}, []byte{0x0f, 0x9f, 0xc3}},
		{api.IA{Op: api.IZero, D: 7, S: 3, Size: 32}, []byte{0x0f, 0xb6, 0xfb}},
		{api.IA{Op: api.ICMov, D: 7, S: 3, Size: 32, Imm: 12}, []byte{0x0f, 0x4c, 0xfb}},
		{api.IA{Op: api.IJcc, S: 5, Size: 8, Imm: -128}, []byte{0x75, 0x80}},
		{api.IA{Op: api.IJcc, S: 5, Size: 32, Imm: -2}, []byte{0x0f, 0x85, 0xfe, 0xff, 0xff, 0xff}},
		{api.IA{Op: api.IJmp, Size: 8, Imm: 127}, []byte{0xeb, 0x7f}},
		{api.IA{Op: api.IJmp, Size: 32, Imm: -1 << 31}, []byte{0xe9, 0, 0, 0, 0x80}},
		{api.IA{Op: api.IHlt, Size: 32}, []byte{0xf4}},
		{api.IA{Op: api.IUd, Size: 32}, []byte{0x0f, 0x0b}},
		{api.IA{Op: api.INop, Size: 32}, []byte{0x90}},
	} {
		b, e := ia.Encode(c.x)
		n, _ := ia.Size(c.x)
		if !bytes.Equal(b, c.b) || n != len(c.b) || e != api.OK {
			t.Errorf("%v: % x", c.x, b)
		}
		for _, more := range [][]byte{nil, {0}, {0x66, 0xff}} {
			if x, n, is := ia.Decode(append(slices.Clone(c.b), more...)); x != c.x || n != len(c.b) || !is {
				t.Error(c.x, x, n, is)
			}
		}
		for n := range c.b {
			if x, k, is := ia.Decode(c.b[:n]); is || k != 0 || x != (api.IA{}) {
				t.Error("the beginning of an instruction is none", c.x, n, x)
			}
		}
	}
}

func TestDecodeMany(t *testing.T) {
	seed, count := uint32(1), map[int]int{}
	next := func() byte {
		seed = seed*1664525 + 1013904223
		return byte(seed >> 20)
	}
	for i := range 200000 {
		b := make([]byte, 9)
		for k := range b {
			b[k] = next()
		}
		if i%3 == 0 {
			b[0] = 0x66
		}
		if i%5 == 0 {
			b[0] = 0x0f
		}
		x, n, is := ia.Decode(b)
		if !is {
			continue
		}
		count[x.Op]++
		back, e := ia.Encode(x)
		if !bytes.Equal(back, b[:n]) || e != api.OK {
			t.Errorf("% x: %v % x", b, x, back)
		}
		l, k := ia.List(b)
		again, e := ia.Bytes(l)
		if len(l) == 0 || l[0] != x || !bytes.Equal(again, b[:k]) || e != api.OK {
			t.Errorf("% x: %v", b, l)
		}
	}
	if len(count) != 37 {
		t.Error("operations that are not met", len(count))
	}
}

func TestErrors(t *testing.T) {
	for i, x := range []api.IA{
		{Op: -1, Size: 32}, {Op: 37, Size: 32}, {Op: api.IMov}, {Op: api.IMov, Size: 8}, {Op: api.IMov, Size: 48}, {Op: api.IMov, Size: 32, Imm: 1}, {Op: api.IMov, Size: 32, D: 8}, {Op: api.IMov, Size: 32, S: -1},
		{Op: api.IMovI, Size: 32, S: 1}, {Op: api.IMovI, Size: 32, Imm: 1 << 32}, {Op: api.IMovI, Size: 16, Imm: 65536}, {Op: api.IMovI, Size: 32, Imm: -1}, {Op: api.IMovI, Size: 8},
		{Op: api.ILoad, Size: 32, S: 4}, {Op: api.ILoad, Size: 32, Imm: 1 << 31}, {Op: api.ILoad, Size: 32, Imm: -1<<31 - 1}, {Op: api.IStore, Size: 32, D: 4}, {Op: api.ILoadB, Size: 16}, {Op: api.ILoadH, Size: 16}, {Op: api.IStoreB, Size: 32, S: 4}, {Op: api.IStoreB, Size: 16},
		{Op: api.IAddI, Size: 16, Imm: 65536}, {Op: api.IAddI, Size: 32, S: 1}, {Op: api.IMul, Size: 16}, {Op: api.IShl, Size: 32, S: 1}, {Op: api.INot, Size: 8}, {Op: api.IDiv, Size: 16}, {Op: api.ICdq, Size: 32, D: 1}, {Op: api.ICdq, Size: 16},
		{Op: api.ISet, Size: 32, D: 4}, {Op: api.ISet, Size: 32, S: 10}, {Op: api.ISet, Size: 32, S: 11}, {Op: api.ISet, Size: 32, S: 16}, {Op: api.IZero, Size: 32, S: 4}, {Op: api.ICMov, Size: 32, Imm: 10}, {Op: api.ICMov, Size: 32, Imm: -1},
		{Op: api.IJcc, Size: 8, S: 11}, {Op: api.IJcc, Size: 8, Imm: 128}, {Op: api.IJcc, Size: 8, Imm: -129}, {Op: api.IJcc, Size: 16}, {Op: api.IJcc, Size: 32, D: 1}, {Op: api.IJmp, Size: 32, Imm: 1 << 31}, {Op: api.IJmp, Size: 8, S: 1}, {Op: api.IHlt, Size: 8}, {Op: api.INop},
	} {
		b, e1 := ia.Encode(x)
		n, e2 := ia.Size(x)
		f, e3 := ia.Reads(x)
		l, e4 := ia.Bytes([]api.IA{{Op: api.INop, Size: 32}, x})
		for _, e := range []api.Errno{ia.Validate(x), e1, e2, e3, e4} {
			if e != api.ErrArg {
				t.Error(i, x, e)
			}
		}
		if b != nil || n != 0 || f != 0 || l != nil {
			t.Error(i, b, n, f, l)
		}
	}
}

// P19.2
func TestConditions(t *testing.T) {
	for flags := range 16 {
		c, z, s, o := flags&1 != 0, flags&2 != 0, flags&4 != 0, flags&8 != 0
		wants := map[int]bool{0: o, 2: c, 4: z, 6: c || z, 8: s, 12: s != o, 14: z || s != o}
		for condition, want := range wants {
			is, e := ia.Holds(condition, flags)
			not, e2 := ia.Holds(condition+1, flags)
			if is != want || not == want || e != api.OK || e2 != api.OK {
				t.Error(condition, flags, is, not)
			}
		}
	}
	for _, c := range [][2]int{{-1, 0}, {10, 0}, {11, 0}, {16, 0}, {0, -1}, {0, 16}} {
		if _, e := ia.Holds(c[0], c[1]); e != api.ErrArg {
			t.Error(c, e)
		}
	}
	for condition, want := range map[int]int{0: 8, 1: 8, 2: 1, 5: 2, 6: 3, 9: 4, 12: 12, 15: 14} {
		for _, x := range []api.IA{{Op: api.ISet, S: condition, Size: 32}, {Op: api.ICMov, S: 3, Imm: condition, Size: 32}, {Op: api.IJcc, S: condition, Size: 8}} {
			if flags, e := ia.Reads(x); flags != want || e != api.OK {
				t.Error(x, flags, e)
			}
		}
	}
	if flags, e := ia.Reads(api.IA{Op: api.IAdd, S: 4, Size: 32}); flags != 0 || e != api.OK {
		t.Error(flags, e)
	}
}

func machine(t *testing.T, l ...api.IA) api.Machine {
	t.Helper()
	b, e := ia.Bytes(l)
	if e != api.OK {
		t.Fatal(l, e)
	}
	m := api.Machine{Mem: append(make([]byte, 17), b...), At: 17}
	m.Regs[9] = 99
	return m
}

// P19.3: what a word and a number make, and the flags.
func TestArithmetic(t *testing.T) {
	const all, low = 1<<32 - 1, 1 << 31
	for _, c := range []struct {
		op, size int
		d, s     uint32
		want     uint32
		flags    int
	}{
		{api.IAdd, 32, 1, 2, 3, 0},
		{api.IAdd, 32, all, 1, 0, 1 + 2},
		{api.IAdd, 32, low - 1, 1, low, 4 + 8},
		{api.IAdd, 32, low, low, 0, 1 + 2 + 8},
		{api.IAdd, 16, 0xabcdffff, 0x77770001, 0xabcd0000, 1 + 2},
		{api.IAdd, 16, 0x7fff, 1, 0x8000, 4 + 8},
		{api.ISub, 32, 1, 2, all, 1 + 4},
		{api.ISub, 32, low, 1, low - 1, 8},
		{api.ISub, 32, 5, 5, 0, 2},
		{api.ISub, 16, 0x10000, 1, 0x1ffff, 1 + 4},
		{api.ICmp, 32, 1, 2, 1, 1 + 4},
		{api.ICmp, 32, 0, low, 0, 1 + 4 + 8},
		{api.IOr, 32, low, 1, low + 1, 4},
		{api.IAnd, 32, 6, 1, 0, 2},
		{api.IXor, 16, 0x12348000, 0x0001, 0x12348001, 4},
		{api.ITest, 32, all, low, all, 4},
	} {
		number := c.op - api.IAdd + api.IAddI
		l := []api.IA{{Op: c.op, D: 2, S: 6, Size: c.size}}
		if c.op != api.ITest {
			l = append(l, api.IA{Op: number, D: 2, Size: c.size, Imm: int(c.s) & (1<<c.size - 1)})
		}
		for _, x := range l {
			m := machine(t, x)
			m.Regs[2], m.Regs[6], m.Flags = c.d, c.s, 15
			n, e := ia.Step(m)
			if size, _ := ia.Size(x); n.Regs[2] != c.want || n.Flags != c.flags || int(n.At) != 17+size || n.End != api.Runs || n.Regs[9] != 99 || e != api.OK {
				t.Errorf("%v %v: %#x %d %d", c, x, n.Regs[2], n.Flags, n.At)
			}
		}
	}
	for _, c := range []struct {
		d, s, want uint32
		flags      int
	}{{3, 4, 12, 6}, {all, all, 1, 6}, {low, 2, 0, 15}, {1 << 16, 1 << 15, low, 15}, {low, 1, low, 6}} {
		m := machine(t, api.IA{Op: api.IMul, D: 1, S: 2, Size: 32})
		m.Regs[1], m.Regs[2], m.Flags = c.d, c.s, 6
		if n, _ := ia.Step(m); n.Regs[1] != c.want || n.Flags != c.flags {
			t.Error(c, n.Regs[1], n.Flags)
		}
	}
}

func TestShifts(t *testing.T) {
	const low = 1 << 31
	for _, c := range []struct {
		op, size int
		d, by    uint32
		want     uint32
		flags    int
	}{
		{api.IShl, 32, 3, 31, low, 1 + 4},
		{api.IShl, 32, low + 1, 1, 2, 1},
		{api.IShl, 32, low + 1, 32, low + 1, 15},
		{api.IShl, 32, 1, 33 + 256, 2, 0},
		{api.IShl, 16, 0xaaaa0001, 16, 0xaaaa0000, 1 + 2},
		{api.IShl, 16, 0xaaaaffff, 17, 0xaaaa0000, 2},
		{api.IShr, 32, low, 31, 1, 0},
		{api.IShr, 32, 3, 1, 1, 1},
		{api.IShr, 16, 0xaaaa8000, 16, 0xaaaa0000, 1 + 2},
		{api.IShr, 16, 0xaaaa8000, 17, 0xaaaa0000, 2},
		{api.ISar, 32, low, 31, 1<<32 - 1, 4},
		{api.ISar, 32, low + 2, 2, 0xe0000000, 1 + 4},
		{api.ISar, 16, 0xaaaa8000, 20, 0xaaaaffff, 1 + 4},
		{api.ISar, 16, 0xaaaa7fff, 20, 0xaaaa0000, 2},
		{api.ISar, 16, 0xaaaa8000, 16, 0xaaaaffff, 1 + 4},
	} {
		m := machine(t, api.IA{Op: c.op, D: 3, Size: c.size})
		m.Regs[3], m.Regs[1], m.Flags = c.d, c.by, 15
		if n, _ := ia.Step(m); n.Regs[3] != c.want || n.Flags != c.flags {
			t.Errorf("%v: %#x %d", c, n.Regs[3], n.Flags)
		}
	}
}

func TestDivisions(t *testing.T) {
	const all, low = 1<<32 - 1, 1 << 31
	for _, c := range []struct {
		op         int
		high, n, d uint32
		quotient   uint32
		rest       uint32
		is         bool
	}{
		{api.IDiv, 0, 7, 2, 3, 1, true},
		{api.IDiv, 1, 0, 2, low, 0, true},
		{api.IDiv, 2, 0, 2, 0, 0, false},
		{api.IDiv, 0, 7, 0, 0, 0, false},
		{api.IIDiv, all, all - 6, 2, all - 2, all, true},
		{api.IIDiv, 0, 7, all - 1, all - 2, 1, true},
		{api.IIDiv, all, low, all, 0, 0, false},
		{api.IIDiv, low, 0, all, 0, 0, false},
		{api.IIDiv, low, 0, 5, 0, 0, false},
		{api.IIDiv, 0, 7, 0, 0, 0, false},
		{api.IIDiv, all, low, 1, low, 0, true},
		{api.IIDiv, 0, low, 1, 0, 0, false},
	} {
		m := machine(t, api.IA{Op: c.op, D: 3, Size: 32})
		m.Regs[0], m.Regs[2], m.Regs[3], m.Flags = c.n, c.high, c.d, 5
		n, e := ia.Step(m)
		switch {
		case e != api.OK || n.Flags != 5 || (n.End == api.Fault) == c.is:
			t.Error(c, n.End, n.Flags, e)
		case c.is && (n.Regs[0] != c.quotient || n.Regs[2] != c.rest):
			t.Error(c, n.Regs[:4])
		case !c.is && (n.Regs != m.Regs || n.At != m.At):
			t.Error("a fault changes nothing", c)
		}
	}
}

func TestMoves(t *testing.T) {
	step := func(x api.IA, change func(m *api.Machine)) api.Machine {
		t.Helper()
		m := machine(t, x)
		m.Flags = 6
		copy(m.Mem, []byte{0xf1, 0xf2, 0xf3, 0xf4, 0xf5})
		for r := range 8 {
			m.Regs[r] = uint32(0x11111111 * r)
		}
		change(&m)
		n, e := ia.Step(m)
		if e != api.OK || n.Flags != 6 {
			t.Error(x, e, n.Flags)
		}
		return n
	}
	nothing := func(m *api.Machine) {}
	for i, c := range []struct {
		x    api.IA
		want uint32
	}{
		{api.IA{Op: api.IMov, D: 2, S: 3, Size: 32}, 0x33333333},
		{api.IA{Op: api.IMov, D: 2, S: 3, Size: 16}, 0x22223333},
		{api.IA{Op: api.IMovI, D: 2, Size: 32, Imm: 7}, 7},
		{api.IA{Op: api.IMovI, D: 2, Size: 16, Imm: 7}, 0x22220007},
		{api.IA{Op: api.ILoad, D: 2, Size: 32, Imm: 1}, 0xf5f4f3f2},
		{api.IA{Op: api.ILoad, D: 2, Size: 16, Imm: 1}, 0x2222f3f2},
		{api.IA{Op: api.ILoadB, D: 2, Size: 32, Imm: 1}, 0xf2},
		{api.IA{Op: api.ILoadH, D: 2, Size: 32, Imm: 1}, 0xf3f2},
		{api.IA{Op: api.INot, D: 2, Size: 16}, 0x2222dddd},
		{api.IA{Op: api.ICdq, Size: 32}, 0},
		{api.IA{Op: api.ISet, D: 2, S: 4, Size: 32}, 0x22222201},
		{api.IA{Op: api.ISet, D: 2, S: 5, Size: 32}, 0x22222200},
		{api.IA{Op: api.IZero, D: 2, S: 3, Size: 32}, 0x33},
		{api.IA{Op: api.ICMov, D: 2, S: 7, Imm: 8, Size: 32}, 0x77777777},
		{api.IA{Op: api.ICMov, D: 2, S: 7, Imm: 9, Size: 32}, 0x22222222},
	} {
		if n := step(c.x, nothing); n.Regs[2] != c.want {
			t.Errorf("%d %v: %#x", i, c.x, n.Regs[2])
		}
	}
	if n := step(api.IA{Op: api.ICdq, Size: 32}, func(m *api.Machine) { m.Regs[0] = 1 << 31 }); n.Regs[2] != 1<<32-1 {
		t.Error(n.Regs[2])
	}
	for op, want := range map[int][]byte{api.IStore: {0xf1, 0x33, 0x33, 0x33, 0x33}, api.IStoreB: {0xf1, 0x33, 0xf3, 0xf4, 0xf5}} {
		if n := step(api.IA{Op: op, S: 3, Size: 32, Imm: 1}, nothing); !bytes.Equal(n.Mem[:5], want) {
			t.Errorf("% x", n.Mem[:5])
		}
	}
	if n := step(api.IA{Op: api.IStore, S: 3, Size: 16, Imm: 1}, nothing); !bytes.Equal(n.Mem[:5], []byte{0xf1, 0x33, 0x33, 0xf4, 0xf5}) {
		t.Errorf("% x", n.Mem[:5])
	}
	wrap := func(m *api.Machine) { m.Regs[3] = 1<<32 - 1 }
	if n := step(api.IA{Op: api.ILoadB, D: 2, S: 3, Size: 32, Imm: 2}, wrap); n.Regs[2] != 0xf2 {
		t.Error(n.Regs[2])
	}
	if n := step(api.IA{Op: api.ILoadB, D: 2, S: 3, Size: 32}, wrap); n.End != api.Fault || n.At != 17 || n.Regs[2] != 0x22222222 {
		t.Error(n)
	}
	if n := step(api.IA{Op: api.ILoad, D: 2, Size: 32, Imm: 17 + 6 - 3}, nothing); n.End != api.Fault {
		t.Error(n.End)
	}
	m := machine(t, api.IA{Op: api.INeg, D: 3, Size: 32})
	for d, flags := range map[uint32]int{0: 2, 1: 1 + 4, 1 << 31: 1 + 4 + 8} {
		m.Regs[3] = d
		if n, _ := ia.Step(m); n.Regs[3] != -d || n.Flags != flags {
			t.Error(d, n.Regs[3], n.Flags)
		}
	}
}

func TestJumpsAndEnds(t *testing.T) {
	for _, c := range []struct {
		x    api.IA
		at   int
		ends int
	}{
		{api.IA{Op: api.IJcc, S: 4, Size: 8, Imm: -5}, 14, api.Runs},
		{api.IA{Op: api.IJcc, S: 5, Size: 8, Imm: -5}, 19, api.Runs},
		{api.IA{Op: api.IJcc, S: 4, Size: 32, Imm: 5}, 28, api.Runs},
		{api.IA{Op: api.IJmp, Size: 8, Imm: 5}, 24, api.Runs},
		{api.IA{Op: api.IJmp, Size: 32, Imm: -5}, 17, api.Runs},
		{api.IA{Op: api.INop, Size: 32}, 18, api.Runs},
		{api.IA{Op: api.IHlt, Size: 32}, 17, api.Halted},
		{api.IA{Op: api.IUd, Size: 32}, 17, api.Stopped},
	} {
		m := machine(t, c.x)
		m.Flags = 2
		if n, e := ia.Step(m); int(n.At) != c.at || n.End != c.ends || e != api.OK {
			t.Error(c, n.At, n.End, e)
		}
	}
	m := machine(t, api.IA{Op: api.IMovI, D: 3, Size: 32, Imm: 4}, api.IA{Op: api.ISubI, D: 3, Size: 32, Imm: 1}, api.IA{Op: api.IJcc, S: 5, Size: 8, Imm: -5}, api.IA{Op: api.IHlt, Size: 32})
	n, count, e := ia.Run(m, 100)
	if n.End != api.Halted || count != 10 || n.Regs[3] != 0 || e != api.OK || m.Regs[3] != 0 {
		t.Error(n.End, count, n.Regs[3], e)
	}
	for most := range 12 {
		a, first, _ := ia.Run(m, most)
		if first != min(most, 10) || (a.End == api.TooLong) != (most < 10) {
			t.Error(most, first, a.End)
		}
		if a.End == api.TooLong {
			a.End = api.Runs
			if b, second, _ := ia.Run(a, 100); first+second != 10 || b.Regs != n.Regs || b.Flags != n.Flags {
				t.Error(most, first, second)
			}
		}
	}
	out := machine(t, api.IA{Op: api.INop, Size: 32})
	if n, count, _ := ia.Run(out, 5); n.End != api.Fault || count != 1 || n.At != 18 {
		t.Error(n.End, count, n.At)
	}
	out.At = 1<<32 - 1
	if n, _ := ia.Step(out); n.End != api.Fault {
		t.Error(n.End)
	}
	for i, c := range []struct {
		change func(m *api.Machine)
		most   int
		want   api.Errno
	}{
		{func(m *api.Machine) { m.Mem = make([]byte, api.MaxMemory+1) }, 1, api.ErrArg},
		{func(m *api.Machine) { m.Flags = 16; m.End = api.Halted }, 1, api.ErrArg},
		{func(m *api.Machine) { m.Flags = -1 }, 1, api.ErrArg},
		{func(m *api.Machine) { m.End = api.Fault }, 1, api.ErrState},
		{func(m *api.Machine) { m.End = api.Fault }, -1, api.ErrArg},
		{func(m *api.Machine) {}, api.MaxRun + 1, api.ErrArg},
	} {
		m := machine(t, api.IA{Op: api.INop, Size: 32})
		c.change(&m)
		_, e := ia.Step(m)
		n, count, e2 := ia.Run(m, c.most)
		if e2 != c.want || c.most == 1 && e != c.want || count != 0 || n.Mem != nil {
			t.Error(i, e, e2)
		}
	}
}
