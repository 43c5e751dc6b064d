package place_test

import (
	"slices"
	"testing"

	"backstay/api"
	"backstay/fuzz"
	"backstay/ia"
	"backstay/pick"
	"backstay/place"
	"backstay/rv"
	"backstay/seat"
)

type random struct{ seed int }

func (r *random) next(n int) int {
	r.seed = r.seed*6364136223846793005 + 1442695040888963407
	return int(uint(r.seed)>>33) % n
}

var limits = [2]int{10, 4}

func three(op, d, a, b int) api.Code { return api.Code{Op: op, D: d, A: a, B: b} }

// does checks that the bytes of a program do what it does.
func does(t *testing.T, set int, p api.Program, mem []byte) {
	t.Helper()
	o, e := place.Emit(set, p)
	if e != api.OK || place.ValidateObject(o) != api.OK || len(o.Wants) != 0 || len(o.Symbols) != 1 || o.Symbols[0] != (api.Symbol{}) {
		t.Fatal(set, p, e)
	}
	if is, e := place.Check(set, p); !is || e != api.OK {
		t.Fatal(set, p, is, e)
	}
	before, end, n, _ := pick.Execute(p, mem, api.MaxRun/8-1)
	if end != api.Halted && end != api.Stopped {
		return
	}
	image, _ := place.Link([]api.Object{o}, api.CodeAt)
	m, e := place.Load(image, mem)
	if e != api.OK || m.At != api.CodeAt {
		t.Fatal(e)
	}
	after, _, e := place.Run(set, m, 8*n+8)
	copy(before[api.CodeAt:], image)
	if e != api.OK || after.End != end || !slices.Equal(after.Mem, before) {
		t.Fatal(set, p, end, after.End, e)
	}
}

// code makes a program; with fill, its blocks are long.
func code(r *random, regs, fill int) api.Program {
	p := api.Program{Regs: regs}
	n := 1 + r.next(5)
	reg := func() int { return r.next(regs) }
	imm := func() uint32 {
		return []uint32{0, 1, 1<<32 - 1, 2047, 2048, 1<<32 - 2048, 1<<32 - 2049, 0x12345fff, 1 << 31, uint32(r.next(99))}[r.next(10)]
	}
	for b := range n {
		var block []api.Code
		for range r.next(9) + r.next(fill+1) {
			at := uint32(0x200 + 4*r.next(30))
			switch r.next(9) {
			case 0:
				block = append(block, api.Code{Op: api.NLi, D: reg(), Imm: imm()})
			case 1:
				block = append(block, api.Code{Op: api.NMv, D: reg(), A: reg()})
			case 2:
				block = append(block, api.Code{Op: api.NSb + r.next(3), A: -1, B: reg(), Imm: at})
			case 3:
				block = append(block, api.Code{Op: api.NLb + r.next(3), D: reg(), A: -1, Imm: at})
			case 4:
				x, low := reg(), imm()
				block = append(block, api.Code{Op: api.NLi, D: x, Imm: at - low}, api.Code{Op: api.NSb + r.next(3), A: x, B: reg(), Imm: low}, api.Code{Op: api.NLb + r.next(3), D: reg(), A: x, Imm: low})
			case 5:
				block = append(block, api.Code{Op: api.NBnz, A: reg(), To: r.next(n)})
			default:
				block = append(block, three(api.NAdd+r.next(15), reg(), reg(), reg()))
			}
		}
		last := []api.Code{{Op: api.NHalt}, {Op: api.NStop}, {Op: api.NJmp, To: r.next(n)}}[r.next(3)]
		if b == n-1 {
			last = api.Code{Op: api.NHalt}
		}
		p.Blocks = append(p.Blocks, append(block, last))
	}
	return p
}

// P22.1
func TestPrograms(t *testing.T) {
	r := &random{1}
	mem := make([]byte, api.MaxMemory)
	for i := range api.CodeAt {
		mem[i] = byte(i * 37)
	}
	for range 1500 {
		for set, limit := range limits {
			p := code(r, 1+r.next(limit), 0)
			if pick.Validate(p) == api.OK {
				does(t, set, p, mem)
			}
		}
	}
	for seed := range 300 {
		s := &random{seed}
		l := make([]int, 160)
		for i := range l {
			l[i] = s.next(1 << 30)
		}
		f := fuzz.Make(l)
		p, e := pick.Pick(f)
		for set, k := range [2]int{8, 2} {
			q, _, e2 := seat.Allocate(p, k)
			if e != api.OK || e2 != api.OK {
				continue
			}
			inputs, _ := fuzz.Inputs(f, 3)
			for _, in := range inputs {
				mem, _ := pick.Memory(f, in)
				does(t, set, q, mem)
			}
		}
	}
}

func TestErrors(t *testing.T) {
	halt := []api.Code{{Op: api.NHalt}}
	for i, c := range []struct {
		set int
		p   api.Program
		e   api.Errno
	}{
		{2, api.Program{}, api.ErrArg},
		{-1, api.Program{}, api.ErrArg},
		{0, api.Program{}, api.ErrLarge},
		{1, api.Program{Regs: 11, Blocks: [][]api.Code{nil}}, api.ErrRule},
		{0, api.Program{Regs: 10, Blocks: [][]api.Code{halt}}, api.OK},
		{0, api.Program{Regs: 11, Blocks: [][]api.Code{halt}}, api.ErrLarge},
		{1, api.Program{Regs: 4, Blocks: [][]api.Code{halt}}, api.OK},
		{1, api.Program{Regs: 5, Blocks: [][]api.Code{halt}}, api.ErrLarge},
	} {
		o, e1 := place.Emit(c.set, c.p)
		_, e2 := place.Starts(c.set, c.p)
		_, e3 := place.Longs(c.set, c.p)
		is, e4 := place.Check(c.set, c.p)
		for _, e := range []api.Errno{e1, e2, e3, e4} {
			if e != c.e {
				t.Error(i, e)
			}
		}
		if c.e == api.OK && len(o.Bytes) != [2]int{4, 1}[c.set] || is != (c.e == api.OK) {
			t.Error(i, o, is)
		}
	}
	mem := make([]byte, api.MaxMemory)
	if _, e := place.Load(nil, mem[1:]); e != api.ErrArg {
		t.Error(e)
	}
	if _, e := place.Load(make([]byte, api.MaxMemory-api.CodeAt+1), mem); e != api.ErrLarge {
		t.Error(e)
	}
	m, e := place.Load(make([]byte, api.MaxMemory-api.CodeAt), mem)
	if e != api.OK || m.At != api.CodeAt || m.End != api.Runs || len(m.Mem) != api.MaxMemory {
		t.Error(e)
	}
	if _, _, e := place.Run(2, m, 1); e != api.ErrArg {
		t.Error(e)
	}
	for set := range 2 {
		if _, _, e := place.Run(set, m, -1); e != api.ErrArg {
			t.Error(e)
		}
	}
}

// P22.2
func TestStarts(t *testing.T) {
	r := &random{5}
	longs := [2]int{}
	for range 400 {
		for set, limit := range limits {
			p := code(r, limit, 70)
			if pick.Validate(p) != api.OK {
				continue
			}
			starts, _ := place.Starts(set, p)
			l, e := place.Longs(set, p)
			o, _ := place.Emit(set, p)
			n, _ := pick.Size(p)
			if e != api.OK || len(starts) != n+1 || starts[0] != 0 || starts[n] != len(o.Bytes) || !slices.IsSorted(starts) || !slices.IsSorted(l) {
				t.Fatal(set, starts, l, e)
			}
			longs[set] += len(l)
			checkForms(t, set, p, starts, l)
			checkCode(t, set, p, starts, o.Bytes)
		}
	}
	if longs[1] < 100 {
		t.Error(longs)
	}
}

// checkCode decodes what stands at each start; equal instructions have equal code.
func checkCode(t *testing.T, set int, p api.Program, starts []int, b []byte) {
	t.Helper()
	known := map[api.Code]string{}
	for i, x := range slices.Concat(p.Blocks...) {
		part := b[starts[i]:starts[i+1]]
		n := 0
		if set == 0 {
			_, n = rv.List(part)
		} else {
			_, n = ia.List(part)
		}
		if n != len(part) || n == 0 {
			t.Errorf("%v: % x", x, part)
		}
		if x.Op == api.NJmp || x.Op == api.NBnz {
			continue
		}
		if s, is := known[x]; is && s != string(part) {
			t.Errorf("%v: % x, % x", x, s, part)
		}
		known[x] = string(part)
	}
}

// checkForms checks that short branches reach, and long ones would not.
func checkForms(t *testing.T, set int, p api.Program, starts, longs []int) {
	t.Helper()
	first := []int{}
	n := 0
	for _, block := range p.Blocks {
		first = append(first, n)
		n += len(block)
	}
	for i, x := range slices.Concat(p.Blocks...) {
		if x.Op != api.NBnz && (x.Op != api.NJmp || set == 0) {
			continue
		}
		size, more := 4, 4
		if x.Op == api.NJmp {
			size, more = 2, 3
		}
		isLong := slices.Contains(longs, i)
		if want := size + more; isLong && starts[i+1]-starts[i] != want || !isLong && starts[i+1]-starts[i] != size {
			t.Error(set, x, i, isLong, starts[i+1]-starts[i])
		}
		distance := starts[first[x.To]] - starts[i]
		if isLong && first[x.To] > i {
			distance -= more
		}
		reaches := distance >= -4096 && distance <= 4094
		if set == 1 {
			reaches = distance-size >= -128 && distance-size <= 127
		}
		if reaches == isLong {
			t.Error(set, x, i, isLong, distance)
		}
	}
}

// A branch of the set 1 over 128 bytes is long; over 127 it is short. Of the set 0 it is about 4094 bytes.
func TestReach(t *testing.T) {
	nothing := func(n int) []api.Code {
		return slices.Repeat([]api.Code{{Op: api.NMv, D: 1, A: 1}}, n)
	}
	// A move has 2 bytes, and NLi 5.
	jump := func(moves int, more ...api.Code) api.Program {
		return api.Program{Regs: 2, Blocks: [][]api.Code{{{Op: api.NJmp, To: 2}}, append(append(nothing(moves), more...), api.Code{Op: api.NHalt}), {{Op: api.NHalt}}}}
	}
	five := api.Code{Op: api.NLi}
	for i, c := range []struct {
		p    api.Program
		long bool
	}{{jump(63), false}, {jump(61, five), true}, {jump(64), true}} {
		l, e := place.Longs(1, c.p)
		if (len(l) == 1) != c.long || e != api.OK {
			s, _ := place.Starts(1, c.p)
			t.Error(i, l, s, e)
		}
	}
	// A store to a far address has 12 bytes of the set 0.
	back := func(n int) api.Program {
		block := append(slices.Repeat([]api.Code{{Op: api.NSw, A: -1, Imm: 0x12345678}}, n), api.Code{Op: api.NBnz, To: 0}, api.Code{Op: api.NHalt})
		return api.Program{Regs: 1, Blocks: [][]api.Code{block}}
	}
	for n, want := range map[int]int{341: 0, 342: 1} {
		if l, e := place.Longs(0, back(n)); len(l) != want || e != api.OK {
			t.Error(n, l, e)
		}
	}
	mem := make([]byte, api.MaxMemory)
	far := api.Program{Regs: 2, Blocks: [][]api.Code{{{Op: api.NLi, Imm: 1}, {Op: api.NBnz, A: 0, To: 2}, {Op: api.NStop}}, append(slices.Repeat([]api.Code{{Op: api.NLi, D: 1, Imm: 1 << 20}}, 390), api.Code{Op: api.NHalt}), {{Op: api.NSw, A: -1, Imm: 0x200}, {Op: api.NHalt}}}}
	for set := range 2 {
		does(t, set, far, mem)
	}
}

// P22.3
func TestLink(t *testing.T) {
	a := api.Object{Bytes: []byte{1, 2, 3, 4, 5}, Symbols: []api.Symbol{{Name: 7, At: 5}, {Name: -7, At: 0}}, Wants: []api.Want{{At: 1, Kind: 0, Name: 9, Plus: -2}}}
	b := api.Object{Bytes: []byte{9, 9, 9, 9, 8, 8, 8, 8}, Symbols: []api.Symbol{{Name: 9, At: 4}}, Wants: []api.Want{{At: 4, Kind: 1, Name: 7, Plus: 1}, {At: 0, Kind: 0, Name: -7, Plus: 0}}}
	image, e := place.Link([]api.Object{a, b}, 0x1000)
	want := []byte{1, 0x0a, 0x10, 0, 0, 0, 0, 0, 0, 0x10, 0, 0, 0xf6, 0xff, 0xff, 0xff}
	if !slices.Equal(image, want) || e != api.OK {
		t.Errorf("% x %v", image, e)
	}
	slices.Reverse(b.Wants)
	slices.Reverse(a.Symbols)
	if again, _ := place.Link([]api.Object{a, b}, 0x1000); !slices.Equal(again, want) || a.Bytes[1] != 2 {
		t.Errorf("% x", again)
	}
	for name, at := range map[int]int{7: 0x1005, -7: 0x1000, 9: 0x100c} {
		if n, is, e := place.Find([]api.Object{a, b}, 0x1000, name); n != at || !is || e != api.OK {
			t.Error(name, n, is, e)
		}
	}
	if n, is, e := place.Find([]api.Object{a}, 0x1000, 9); n != 0 || is || e != api.OK {
		t.Error(n, is, e)
	}
	five := api.Object{Bytes: make([]byte, 5)}
	if image, e := place.Link([]api.Object{five, five}, 0); len(image) != 13 || e != api.OK {
		t.Error(len(image), e)
	}
	if image, e := place.Link(nil, 0); len(image) != 0 || e != api.OK {
		t.Error(image, e)
	}
}

func TestObjects(t *testing.T) {
	large := api.Object{Bytes: make([]byte, 8192)}
	for i, c := range []struct {
		o api.Object
		e api.Errno
	}{
		{api.Object{}, api.OK},
		{large, api.OK},
		{api.Object{Bytes: make([]byte, 8193), Symbols: []api.Symbol{{At: -1}}}, api.ErrLarge},
		{api.Object{Symbols: make([]api.Symbol, 65)}, api.ErrLarge},
		{api.Object{Wants: make([]api.Want, 65)}, api.ErrLarge},
		{api.Object{Symbols: []api.Symbol{{At: 1}}}, api.ErrArg},
		{api.Object{Symbols: []api.Symbol{{At: -1}}}, api.ErrArg},
		{api.Object{Symbols: []api.Symbol{{Name: 1 << 31}}}, api.ErrArg},
		{api.Object{Symbols: []api.Symbol{{Name: -1 << 31}, {Name: 1<<31 - 1}}}, api.OK},
		{api.Object{Bytes: make([]byte, 4), Wants: []api.Want{{Kind: 2}}}, api.ErrArg},
		{api.Object{Bytes: make([]byte, 4), Wants: []api.Want{{Plus: 1 << 31}}}, api.ErrArg},
		{api.Object{Bytes: make([]byte, 4), Wants: []api.Want{{At: 1}}}, api.ErrArg},
		{api.Object{Bytes: make([]byte, 4), Wants: []api.Want{{At: 1<<63 - 1}}}, api.ErrArg},
		{api.Object{Bytes: make([]byte, 4), Wants: []api.Want{{At: -1}}}, api.ErrArg},
		{api.Object{Bytes: make([]byte, 8), Wants: []api.Want{{At: 4}, {At: 0}}}, api.OK},
		{api.Object{Bytes: make([]byte, 8), Wants: []api.Want{{At: 3}, {At: 0}}}, api.ErrArg},
		{api.Object{Symbols: []api.Symbol{{Name: 1}, {Name: 1}}}, api.ErrRule},
	} {
		if e := place.ValidateObject(c.o); e != c.e {
			t.Error(i, e)
		}
		if _, _, e := place.Find([]api.Object{{}, c.o}, 0, 1); e != c.e {
			t.Error(i, e)
		}
	}
	one := api.Object{Symbols: []api.Symbol{{Name: 1}}}
	lost := api.Object{Bytes: make([]byte, 4), Wants: []api.Want{{Name: 5}}}
	broken := api.Object{Symbols: []api.Symbol{{At: 1}}}
	for i, c := range []struct {
		l    []api.Object
		base int
		e    api.Errno
		find api.Errno
	}{
		{[]api.Object{broken, {}, {}, {}, {}}, 1, api.ErrLarge, api.ErrLarge},
		{[]api.Object{one, one, broken}, 1, api.ErrArg, api.ErrArg},
		{[]api.Object{one, one}, 2, api.ErrArg, api.ErrArg},
		{[]api.Object{one}, -4, api.ErrArg, api.ErrArg},
		{[]api.Object{one}, api.MaxMemory + 4, api.ErrArg, api.ErrArg},
		{[]api.Object{one}, api.MaxMemory, api.OK, api.OK},
		{[]api.Object{one, lost, one}, 0, api.ErrRule, api.ErrRule},
		{[]api.Object{lost}, api.MaxMemory, api.ErrNone, api.ErrLarge},
		{[]api.Object{lost}, 0, api.ErrNone, api.OK},
		{[]api.Object{large, large, large, large}, 0, api.OK, api.OK},
		{[]api.Object{large, large, large, large}, 4, api.ErrLarge, api.ErrLarge},
	} {
		b, e := place.Link(c.l, c.base)
		_, _, e2 := place.Find(c.l, c.base, 1)
		if e != c.e || e2 != c.find || e != api.OK && b != nil {
			t.Error(i, e, e2)
		}
	}
}
