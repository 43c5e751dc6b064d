package pick_test

import (
	"slices"
	"testing"

	"backstay/api"
	"backstay/fuzz"
	"backstay/pick"
	"backstay/refine"
	"backstay/run"
	"backstay/text"
)

func parse(t *testing.T, s string) api.Func {
	t.Helper()
	f, e := text.Parse(s)
	if e != api.OK {
		t.Fatalf("%q: %v", s, e)
	}
	return f
}

var (
	halt = api.Code{Op: api.NHalt}
	stop = api.Code{Op: api.NStop}
)

func li(d int, n uint32) api.Code { return api.Code{Op: api.NLi, D: d, Imm: n} }

func three(op, d, a, b int) api.Code { return api.Code{Op: op, D: d, A: a, B: b} }

func program(regs int, blocks ...[]api.Code) api.Program {
	return api.Program{Regs: regs, Blocks: blocks}
}

// P20.1
func TestValidate(t *testing.T) {
	mem := make([]byte, 100)
	one := []api.Code{halt}
	for i, c := range []struct {
		p api.Program
		e api.Errno
	}{
		{program(0, one), api.OK},
		{program(0), api.ErrLarge},
		{program(-1, one), api.ErrLarge},
		{program(200, one), api.OK},
		{program(201, one), api.ErrLarge},
		{program(0, slices.Repeat([][]api.Code{one}, 400)...), api.OK},
		{program(0, slices.Repeat([][]api.Code{one}, 401)...), api.ErrLarge},
		{program(1, append(slices.Repeat([]api.Code{li(0, 1)}, 400), halt)), api.ErrLarge},
		{program(1, append(slices.Repeat([]api.Code{li(0, 1)}, 399), halt)), api.OK},
		{program(1, []api.Code{{Op: -1}, halt}), api.ErrArg},
		{program(1, []api.Code{{Op: api.NStop + 1}, halt}), api.ErrArg},
		{program(1, []api.Code{li(1, 1), halt}), api.ErrArg},
		{program(1, []api.Code{li(-1, 1), halt}), api.ErrArg},
		{program(1, []api.Code{{Op: api.NLi, A: 1}, halt}), api.ErrArg},
		{program(2, []api.Code{{Op: api.NMv, D: 1, A: 1}, halt}), api.OK},
		{program(2, []api.Code{{Op: api.NMv, D: 1, A: -1}, halt}), api.ErrArg},
		{program(2, []api.Code{{Op: api.NMv, Imm: 1}, halt}), api.ErrArg},
		{program(2, []api.Code{three(api.NSeq, 1, 1, 1), halt}), api.OK},
		{program(2, []api.Code{three(api.NSeq, 1, 1, 2), halt}), api.ErrArg},
		{program(2, []api.Code{{Op: api.NAdd, To: 1}, halt}), api.ErrArg},
		{program(2, []api.Code{{Op: api.NLw, D: 1, A: -1, Imm: 9}, halt}), api.OK},
		{program(2, []api.Code{{Op: api.NLw, D: 1, A: -2}, halt}), api.ErrArg},
		{program(2, []api.Code{{Op: api.NLw, D: 1, B: 1}, halt}), api.ErrArg},
		{program(2, []api.Code{{Op: api.NSb, A: -1, B: 1}, halt}), api.OK},
		{program(2, []api.Code{{Op: api.NSb, D: 1, B: 1}, halt}), api.ErrArg},
		{program(2, []api.Code{{Op: api.NBnz, A: 1, To: 0}, halt}), api.OK},
		{program(2, []api.Code{{Op: api.NBnz, A: 1, To: 1}, halt}), api.ErrArg},
		{program(2, []api.Code{{Op: api.NJmp, To: -1}}), api.ErrArg},
		{program(2, []api.Code{{Op: api.NHalt, To: 1}}, one), api.ErrArg},
		{program(2, nil), api.ErrRule},
		{program(2, []api.Code{li(0, 1)}), api.ErrRule},
		{program(2, []api.Code{stop, halt}), api.ErrRule},
		{program(2, []api.Code{{Op: api.NBnz}}), api.ErrRule},
	} {
		_, e1 := pick.Live(c.p)
		_, e2 := pick.Size(c.p)
		_, _, _, e3 := pick.Execute(c.p, mem, 1)
		for _, e := range []api.Errno{pick.Validate(c.p), e1, e2, e3} {
			if e != c.e {
				t.Error(i, e, c.e)
			}
		}
	}
	good := program(0, one)
	for _, c := range []struct{ size, most int }{{api.MaxMemory + 1, 1}, {1, -1}, {1, api.MaxRun + 1}} {
		if m, end, n, e := pick.Execute(good, make([]byte, c.size), c.most); m != nil || end != 0 || n != 0 || e != api.ErrArg {
			t.Error(c, e)
		}
	}
	f := parse(t, "func 8 : 8 : 2\n0:\nret 0\n")
	for _, size := range []int{0, api.MaxMemory - 1, api.MaxMemory + 1} {
		if _, e := pick.Says(f, make([]byte, size)); e != api.ErrArg {
			t.Error(size, e)
		}
	}
	if _, e := pick.Says(api.Func{}, nil); e != api.ErrLarge {
		t.Error(e)
	}
	if _, e := pick.Memory(f, api.Input{}); e != api.ErrArg {
		t.Error(e)
	}
	if _, e := pick.Pick(api.Func{}); e != api.ErrLarge {
		t.Error(e)
	}
	for _, x := range []api.Code{{Op: -1}, li(200, 0), {Op: api.NJmp, To: 400}, {Op: api.NMv, A: -1}} {
		_, e1 := pick.Uses(x)
		_, _, e2 := pick.Defines(x)
		if e1 != api.ErrArg || e2 != api.ErrArg {
			t.Error(x, e1, e2)
		}
	}
}

// P20.2: each operation.
func TestExecute(t *testing.T) {
	const all, low = 1<<32 - 1, 1 << 31
	for _, c := range []struct {
		op   int
		a, b uint32
		want uint32
	}{
		{api.NAdd, all, 2, 1}, {api.NSub, 1, 2, all}, {api.NMul, all, all, 1}, {api.NDivu, all, 2, all / 2}, {api.NRemu, 7, 4, 3},
		{api.NDiv, all - 6, 2, all - 2}, {api.NRem, all - 6, 2, all}, {api.NAnd, 6, 3, 2}, {api.NOr, 6, 3, 7}, {api.NXor, 6, 3, 5},
		{api.NShl, 1, 33, 2}, {api.NShr, low, 31, 1}, {api.NSar, low, 31 + 32, all}, {api.NSlt, all, 0, 1}, {api.NSltu, all, 0, 0}, {api.NSeq, 4, 4, 1}, {api.NSeq, 4, 5, 0},
	} {
		p := program(3, []api.Code{li(0, c.a), li(1, c.b), three(c.op, 2, 0, 1), {Op: api.NSw, A: -1, B: 2, Imm: 4}, halt})
		mem, end, n, e := pick.Execute(p, make([]byte, 8), 100)
		if got := uint32(mem[4]) | uint32(mem[5])<<8 | uint32(mem[6])<<16 | uint32(mem[7])<<24; got != c.want || end != api.Halted || n != 5 || e != api.OK {
			t.Error(c, got, end, n, e)
		}
	}
	free := []struct {
		op   int
		a, b uint32
	}{{api.NDivu, 1, 0}, {api.NRemu, 1, 0}, {api.NDiv, 1, 0}, {api.NRem, 1, 0}, {api.NDiv, low, all}, {api.NRem, low, all}}
	for _, c := range free {
		p := program(2, []api.Code{li(0, c.a), li(1, c.b), three(c.op, 0, 0, 1), halt})
		if _, end, n, _ := pick.Execute(p, nil, 100); end != api.Free || n != 2 {
			t.Error(c, end, n)
		}
	}
	// Counts down from 3.
	ring := program(2, []api.Code{li(0, 3), li(1, 1), {Op: api.NJmp, To: 1}}, []api.Code{three(api.NSub, 0, 0, 1), {Op: api.NBnz, A: 0, To: 1}, stop})
	for most, want := range map[int]int{0: api.TooLong, 9: api.TooLong, 10: api.Stopped, 11: api.Stopped} {
		if _, end, n, _ := pick.Execute(ring, nil, most); end != want || n != min(most, 10) {
			t.Error(most, end, n)
		}
	}
	given := []byte{1, 2, 3, 4, 5}
	memory := program(3, []api.Code{li(0, 1), {Op: api.NLh, D: 1, A: 0, Imm: 1}, {Op: api.NLb, D: 2, A: -1, Imm: 4}, {Op: api.NSh, A: -1, B: 1, Imm: 0}, {Op: api.NSb, A: 0, B: 2, Imm: 1<<32 - 1}, {Op: api.NLw, D: 2, A: 0, Imm: 1}, halt})
	mem, end, n, _ := pick.Execute(memory, given, 100)
	if !slices.Equal(mem, []byte{5, 4, 3, 4, 5}) || end != api.Fault || n != 5 || given[0] != 1 {
		t.Error(mem, end, n, given)
	}
}

func TestUsesAndLive(t *testing.T) {
	for _, c := range []struct {
		x    api.Code
		uses []int
		d    int
		is   bool
	}{
		{li(3, 1), nil, 3, true},
		{api.Code{Op: api.NMv, D: 1, A: 199}, []int{199}, 1, true},
		{three(api.NAdd, 0, 5, 2), []int{2, 5}, 0, true},
		{three(api.NAdd, 0, 5, 5), []int{5}, 0, true},
		{api.Code{Op: api.NLw, D: 4, A: -1}, nil, 4, true},
		{api.Code{Op: api.NSw, A: 7, B: 2}, []int{2, 7}, 0, false},
		{api.Code{Op: api.NSw, A: -1, B: 2}, []int{2}, 0, false},
		{api.Code{Op: api.NBnz, A: 3, To: 399}, []int{3}, 0, false},
		{halt, nil, 0, false},
	} {
		l, e := pick.Uses(c.x)
		d, is, e2 := pick.Defines(c.x)
		if !slices.Equal(l, c.uses) || d != c.d || is != c.is || e != api.OK || e2 != api.OK {
			t.Error(c, l, d, is, e, e2)
		}
	}
	p := program(6,
		[]api.Code{three(api.NAdd, 0, 1, 2), {Op: api.NBnz, A: 0, To: 2}, {Op: api.NMv, D: 3, A: 4}, {Op: api.NJmp, To: 1}},
		[]api.Code{{Op: api.NSw, A: 3, B: 5}, halt},
		[]api.Code{three(api.NSub, 3, 3, 1), {Op: api.NJmp, To: 1}},
		[]api.Code{{Op: api.NMv, D: 1, A: 0}, {Op: api.NJmp, To: 3}})
	l, e := pick.Live(p)
	want := [][]int{{1, 2, 3, 4, 5}, {3, 5}, {1, 3, 5}, {0}}
	if !slices.EqualFunc(l, want, slices.Equal[[]int]) || e != api.OK {
		t.Error(l, e)
	}
	if n, e := pick.Size(p); n != 10 || e != api.OK {
		t.Error(n, e)
	}
}

func TestMemoryAndSays(t *testing.T) {
	f := parse(t, "func 8 32 : 4 : 2 8\n0:\n2 = const 4 #0\nret 2\n")
	mem, e := pick.Memory(f, api.Input{Args: []uint32{7, 0x01020304}, Mem: [][]int{{5, -1}, {1, 2, 3, 4, 5, 6, 7, 255}}})
	if e != api.OK || len(mem) != api.MaxMemory {
		t.Fatal(len(mem), e)
	}
	want := make([]byte, api.MaxMemory)
	want[0x110] = 7
	copy(want[0x114:], []byte{4, 3, 2, 1})
	want[0x200] = 5
	copy(want[0x300:], []byte{1, 2, 3, 4, 5, 6, 7, 255})
	if !slices.Equal(mem, want) {
		t.Error("another memory")
	}
	mem[api.RetAt] = 0xfe
	out, e := pick.Says(f, mem)
	if e != api.OK || !run.SameOutcome(out, api.Outcome{Ret: api.Value{N: 14}, Mem: [][]int{{5, 0}, {1, 2, 3, 4, 5, 6, 7, 255}}}) {
		t.Error(out, e)
	}
	if out, _ := pick.Says(parse(t, "func : 0 :\n0:\nret\n"), mem); !run.SameOutcome(out, api.Outcome{}) {
		t.Error(out)
	}
}

// picks checks that the neutral code of a function does what is permitted.
func picks(t *testing.T, f api.Func, n int) bool {
	t.Helper()
	p, e := pick.Pick(f)
	if e == api.ErrLarge {
		return false
	}
	if e != api.OK || pick.Validate(p) != api.OK {
		t.Fatal(f, e)
	}
	inputs, _ := fuzz.Inputs(f, n)
	for _, in := range inputs {
		s, e := run.All(f, in)
		if e != api.OK || slices.ContainsFunc(s, func(o api.Outcome) bool { return o.Kind != api.Done }) {
			continue
		}
		mem, _ := pick.Memory(f, in)
		after, end, _, e := pick.Execute(p, mem, api.MaxRun)
		out, _ := pick.Says(f, after)
		if e != api.OK || end != api.Halted || !refine.PermitsAll(s, []api.Outcome{out}) {
			a, _ := text.Print(f)
			t.Fatal(a, in, s, out, end, e)
		}
		for i, size := range f.Slots {
			copy(after[api.SlotsAt+0x100*i:], mem[api.SlotsAt+0x100*i:][:size])
		}
		copy(after[api.RetAt:], mem[api.RetAt:api.RetAt+4])
		if !slices.Equal(after, mem) {
			t.Error("other bytes of the memory change", f)
		}
	}
	return true
}

// P20.3
func TestPickMany(t *testing.T) {
	for seed := range 2500 {
		l := make([]int, 160)
		s := seed
		for i := range l {
			s = s*6364136223846793005 + 1442695040888963407
			l[i] = s >> 33
		}
		if f := fuzz.Make(l); !picks(t, f, 6) && len(f.Blocks) <= 3 {
			t.Error("too large", f)
		}
		if seed%4 == 0 {
			picks(t, fuzz.Straight(l), 6)
		}
	}
}

// Each operation at some widths, for all words of the small ones.
func TestPickOperations(t *testing.T) {
	for _, w := range []string{"1", "3", "8", "32"} {
		for _, op := range []string{"add", "sub", "mul", "udiv", "urem", "sdiv", "srem", "and", "or", "xor", "shl", "lshr", "ashr"} {
			picks(t, parse(t, "func "+w+" "+w+" : "+w+" :\n0:\n2 = "+op+" "+w+" 0 1\nret 2\n"), 64)
		}
		for _, pred := range []string{"0", "1", "2", "3", "4", "5", "6", "7", "8", "9"} {
			picks(t, parse(t, "func "+w+" "+w+" : 1 :\n0:\n2 = cmp 1 #"+pred+" 0 1\nret 2\n"), 64)
		}
	}
	for _, lane := range []string{"1", "2", "4", "8", "16"} {
		for _, op := range []string{"padd", "psub"} {
			picks(t, parse(t, "func 32 32 : 32 :\n0:\n2 = "+op+" 32 #"+lane+" 0 1\nret 2\n"), 64)
		}
	}
	for _, s := range []string{
		"func 8 : 32 :\n0:\n1 = sext 32 0\nret 1\n", "func 8 : 9 :\n0:\n1 = sext 9 0\nret 1\n", "func 32 : 3 :\n0:\n1 = trunc 3 0\nret 1\n", "func 1 8 8 : 8 :\n0:\n3 = select 8 0 1 2\nret 3\n",
		"func 8 32 : 32 : 8\n0:\n2 = addr 33 #0\n3 = const 3 #4\n4 = gep 33 2 3\n5 = const 4 #5\n6 = gep 33 4 5\nstore 6 1\n8 = load 16 2\n9 = zext 32 8\nret 9\n",
		"func 1 8 8 : 8 :\n0:\njump @1\n1:\n4 = phi 8 1 5 @0 @2\n5 = phi 8 2 4 @0 @2\n6 = phi 1 0 8 @0 @2\nbranch 6 @2 @3\n2:\n8 = const 1 #0\njump @1\n3:\n10 = sub 8 4 5\nret 10\n",
		"func 4 : 4 :\n0:\n1 = poison 4\n2 = freeze 4 1\n3 = sub 4 2 2\n4 = add 4 3 0\nret 4\n",
	} {
		picks(t, parse(t, s), 64)
	}
	p, _ := pick.Pick(parse(t, "func 8 8 : 8 :\n0:\n2 = add 8 0 1\nret 2\n"))
	var ops []int
	for _, x := range p.Blocks[0] {
		ops = append(ops, x.Op)
	}
	if len(p.Blocks) != 1 || !slices.Equal(ops, []int{api.NLw, api.NLw, api.NAdd, api.NLi, api.NAnd, api.NSw, api.NHalt}) {
		t.Error(p)
	}
}

// The largest functions that are never too large.
func TestPickLarge(t *testing.T) {
	for _, op := range []api.Inst{
		{Op: api.Cmp, Width: 1, Imm: api.Sge, Args: []int{0, 1}},
		{Op: api.AShr, Width: 8, Args: []int{0, 1}},
		{Op: api.Select, Width: 8, Args: []int{2, 0, 1}},
		{Op: api.Gep, Width: api.Pointer, Args: []int{3, 1}},
		{Op: api.SExt, Width: 16, Args: []int{1}},
	} {
		f := api.Func{Params: []int{8, 8, 1}, Slots: []int{8}}
		block := []api.Inst{{Op: api.Addr, Width: api.Pointer}}
		for range 18 {
			block = append(block, op)
		}
		f.Blocks = [][]api.Inst{append(block, api.Inst{Op: api.Ret})}
		if !picks(t, f, 3) {
			t.Error("too large", op)
		}
	}
	// Phis with all their moves, on all edges.
	f := api.Func{Params: []int{1, 1, 1}, Blocks: [][]api.Inst{{{Op: api.Branch, Args: []int{0}, To: []int{1, 2}}}, nil, nil}}
	before := [][]int{nil, {0, 1, 2}, {0, 1, 2}}
	for b := 1; b < 3; b++ {
		for i := range 8 {
			own := 4 + (b-1)*9 + (i+1)%8
			f.Blocks[b] = append(f.Blocks[b], api.Inst{Op: api.Phi, Width: 1, Args: []int{1, 1, 1}, To: before[b]})
			f.Blocks[b][i].Args[b] = own
		}
		f.Blocks[b] = append(f.Blocks[b], api.Inst{Op: api.Branch, Args: []int{1}, To: []int{1, 2}})
	}
	if p, e := pick.Pick(f); e != api.OK {
		n, _ := pick.Size(p)
		t.Error(e, n)
	}
}
