package seat_test

import (
	"slices"
	"testing"

	"backstay/api"
	"backstay/fuzz"
	"backstay/pick"
	"backstay/seat"
)

type random struct{ seed int }

func (r *random) next(n int) int {
	r.seed = r.seed*6364136223846793005 + 1442695040888963407
	return int(uint(r.seed)>>33) % n
}

// P21.1
func TestMoves(t *testing.T) {
	for i, c := range []struct {
		l []api.Move
		e api.Errno
	}{
		{nil, api.OK},
		{make([]api.Move, 9), api.ErrLarge},
		{[]api.Move{{To: 31}}, api.ErrArg},
		{[]api.Move{{From: -1}}, api.ErrArg},
		{[]api.Move{{To: 1}, {To: 1}, {To: 99}}, api.ErrArg},
		{[]api.Move{{To: 1}, {To: 1}}, api.ErrRule},
		{[]api.Move{{To: 30, From: 30}}, api.OK},
	} {
		_, e1 := seat.Row(c.l, 7)
		_, e2 := seat.Fewest(c.l)
		if e := seat.ValidateMoves(c.l); e != c.e || e1 != c.e || e2 != c.e {
			t.Error(i, e, e1, e2)
		}
	}
	swap := []api.Move{{To: 1, From: 0}, {To: 0, From: 1}}
	for spare, want := range map[int]api.Errno{-1: api.ErrArg, 31: api.ErrArg, 0: api.ErrFit, 1: api.ErrFit, 2: api.OK} {
		if l, e := seat.Row(swap, spare); e != want || e != api.OK && l != nil {
			t.Error(spare, l, e)
		}
	}
	if n, _ := seat.Fewest(swap); n != 3 {
		t.Error(n)
	}
	if l, _ := seat.Row([]api.Move{{To: 1, From: 0}, {To: 2, From: 1}}, 9); !slices.Equal(l, []api.Move{{To: 2, From: 1}, {To: 1, From: 0}}) {
		t.Error(l)
	}
	r := &random{1}
	for range 4000 {
		l := make([]api.Move, r.next(9))
		order := []int{0, 1, 2, 3, 4, 5, 6, 7, 8, 9}
		for i := range order {
			k := r.next(10)
			order[i], order[k] = order[k], order[i]
		}
		for i := range l {
			l[i] = api.Move{To: order[i], From: r.next(10)}
			if r.next(3) == 0 && i > 0 {
				l[i].From = order[(i+1)%len(l)]
			}
		}
		checkRow(t, l)
	}
}

// fewest counts by the definition: the moves that change something, and the rings that nothing else reads.
func fewest(l []api.Move) int {
	n := 0
	readers := map[int][]int{}
	from := map[int]int{}
	for _, m := range l {
		from[m.To] = m.From
		if m.To != m.From {
			n++
			readers[m.From] = append(readers[m.From], m.To)
		}
	}
	seen := map[int]bool{}
	for _, m := range l {
		at, ring := m.To, []int{}
		for !slices.Contains(ring, at) && len(readers[at]) == 1 && readers[at][0] != at {
			ring = append(ring, at)
			at = readers[at][0]
		}
		if len(ring) > 1 && at == m.To && !seen[m.To] {
			n++
			for _, x := range ring {
				seen[x] = true
			}
		}
	}
	return n
}

func checkRow(t *testing.T, l []api.Move) {
	t.Helper()
	done, e := seat.Row(l, 20)
	n, e2 := seat.Fewest(l)
	if e != api.OK || e2 != api.OK || len(done) != n || n != fewest(l) {
		t.Fatal(l, done, n, fewest(l), e, e2)
	}
	var words [31]int
	for i := range words {
		words[i] = i
	}
	for _, m := range done {
		words[m.To] = words[m.From]
	}
	for r, word := range words {
		want := r
		for _, m := range l {
			if m.To == r {
				want = m.From
			}
		}
		if word != want && r != 20 {
			t.Error(l, done, r, word)
		}
	}
}

func three(op, d, a, b int) api.Code { return api.Code{Op: op, D: d, A: a, B: b} }

// P21.2
func TestClash(t *testing.T) {
	p := api.Program{Regs: 6, Blocks: [][]api.Code{
		{{Op: api.NLi, D: 0, Imm: 1}, {Op: api.NMv, D: 1, A: 0}, three(api.NAdd, 2, 0, 1), {Op: api.NBnz, A: 2, To: 1}, {Op: api.NHalt}},
		{{Op: api.NLi, D: 5, Imm: 1}, {Op: api.NSw, A: 3, B: 2}, {Op: api.NJmp, To: 0}},
	}}
	l, e := seat.Clash(p)
	// 3 is read in block 1, and never written: it is live everywhere. 5 is dead.
	want := [][2]int{{0, 3}, {1, 3}, {2, 3}, {2, 5}, {3, 5}}
	if !slices.Equal(l, want) || e != api.OK {
		t.Error(l, e)
	}
	if _, e := seat.Clash(api.Program{}); e != api.ErrLarge {
		t.Error(e)
	}
}

func TestColors(t *testing.T) {
	triangle := [][2]int{{0, 1}, {1, 2}, {2, 0}}
	for k, want := range map[int]bool{1: false, 2: false, 3: true, 8: true} {
		colors, is, e := seat.Colors(3, k, triangle)
		if is != want || e != api.OK || !is && colors != nil {
			t.Error(k, colors, is, e)
		}
	}
	for i, c := range []struct {
		n, k  int
		edges [][2]int
		e     api.Errno
	}{
		{12, 8, nil, api.OK}, {13, 8, nil, api.ErrArg}, {-1, 8, nil, api.ErrArg}, {0, 1, nil, api.OK}, {3, 0, nil, api.ErrArg}, {3, 9, nil, api.ErrArg},
		{3, 3, [][2]int{{1, 1}}, api.ErrArg}, {3, 3, [][2]int{{0, 3}}, api.ErrArg}, {3, 3, [][2]int{{-1, 0}}, api.ErrArg}, {3, 3, [][2]int{{2, 0}, {2, 0}}, api.OK},
	} {
		if _, is, e := seat.Colors(c.n, c.k, c.edges); e != c.e || is != (e == api.OK) {
			t.Error(i, is, e)
		}
	}
	for i, c := range []struct {
		n      int
		edges  [][2]int
		colors []int
		want   int
		e      api.Errno
	}{
		{3, triangle, []int{0, 7, 3}, 3, api.OK}, {3, triangle, []int{0, 7, 0}, 0, api.ErrProof}, {3, triangle, []int{0, 7, 8}, 0, api.ErrArg}, {3, triangle, []int{0, 7, -1}, 0, api.ErrArg},
		{3, triangle, []int{0, 7}, 0, api.ErrArg}, {3, [][2]int{{0, 0}}, []int{0, 1, 2}, 0, api.ErrArg}, {13, nil, make([]int, 13), 0, api.ErrArg}, {0, nil, nil, 0, api.OK}, {2, nil, []int{4, 4}, 1, api.OK},
	} {
		if n, e := seat.CheckColors(c.n, c.edges, c.colors); n != c.want || e != c.e {
			t.Error(i, n, e)
		}
	}
	r := &random{3}
	for range 300 {
		n, k := 1+r.next(7), 1+r.next(3)
		var edges [][2]int
		for range r.next(12) {
			if a, b := r.next(n), r.next(n); a != b {
				edges = append(edges, [2]int{a, b})
			}
		}
		colors, is, e := seat.Colors(n, k, edges)
		if count, e2 := seat.CheckColors(n, edges, colors); e != api.OK || is && (e2 != api.OK || count > k || slices.Max(colors) >= k) || is != can(n, k, edges) {
			t.Error(n, k, edges, colors, is, e, e2)
		}
	}
}

// can tries all colors.
func can(n, k int, edges [][2]int) bool {
	all := 1
	for range n {
		all *= k
	}
	for x := range all {
		var colors []int
		for range n {
			colors = append(colors, x%k)
			x /= k
		}
		if !slices.ContainsFunc(edges, func(e [2]int) bool { return colors[e[0]] == colors[e[1]] }) {
			return true
		}
	}
	return false
}

// P21.3
func allocates(t *testing.T, p api.Program, k int, mem []byte) bool {
	t.Helper()
	q, n, e := seat.Allocate(p, k)
	if e == api.ErrLarge {
		return false
	}
	if e != api.OK || pick.Validate(q) != api.OK || q.Regs != k+2 {
		t.Fatal(p, q, e)
	}
	if l, e := seat.Frame(q); e != api.OK || len(l) > 0 && l[len(l)-1] >= n {
		t.Error(l, n, e)
	}
	before, end, _, _ := pick.Execute(p, mem, api.MaxRun/8)
	if end != api.Halted && end != api.Stopped {
		return true
	}
	after, ended, _, _ := pick.Execute(q, mem, api.MaxRun)
	for i := range 4 * n {
		after[api.FrameAt+i] = before[api.FrameAt+i]
	}
	if ended != end || !slices.Equal(before, after) {
		t.Fatal(p, q, k, n, end, ended)
	}
	return true
}

// code makes a program that reads registers before it writes them, and goes back to its first block.
func code(r *random) api.Program {
	p := api.Program{Regs: 1 + r.next(14)}
	n := 1 + r.next(4)
	reg := func() int { return r.next(p.Regs) }
	for b := range n {
		var block []api.Code
		for range r.next(14) {
			switch r.next(8) {
			case 0:
				block = append(block, api.Code{Op: api.NLi, D: reg(), Imm: uint32(r.next(99))})
			case 1:
				block = append(block, api.Code{Op: api.NMv, D: reg(), A: reg()})
			case 2:
				block = append(block, api.Code{Op: api.NSw, A: -1, B: reg(), Imm: uint32(0x200 + 4*r.next(30))})
			case 3:
				block = append(block, api.Code{Op: api.NLw, D: reg(), A: -1, Imm: uint32(0x200 + 4*r.next(30))})
			case 4:
				block = append(block, api.Code{Op: api.NBnz, A: reg(), To: r.next(n)})
			default:
				block = append(block, three(api.NAdd+r.next(12), reg(), reg(), reg()))
			}
		}
		last := []api.Code{{Op: api.NHalt}, {Op: api.NStop}, {Op: api.NJmp, To: r.next(n)}}[r.next(3)]
		if b == n-1 && last.Op == api.NJmp {
			last = api.Code{Op: api.NHalt}
		}
		p.Blocks = append(p.Blocks, append(block, last))
	}
	return p
}

func TestAllocate(t *testing.T) {
	r := &random{9}
	for range 4000 {
		p := code(r)
		mem := make([]byte, api.MaxMemory)
		for i := range mem {
			mem[i] = byte(i * 7)
		}
		if !allocates(t, p, 1+r.next(8), mem) {
			t.Error("too large", p)
		}
	}
	large := 0
	for seed := range 400 {
		s := &random{seed}
		l := make([]int, 160)
		for i := range l {
			l[i] = s.next(1 << 30)
		}
		f := fuzz.Make(l)
		p, e := pick.Pick(f)
		if e != api.OK {
			continue
		}
		inputs, _ := fuzz.Inputs(f, 3)
		for _, in := range inputs {
			mem, _ := pick.Memory(f, in)
			for _, k := range []int{1, 2, 8} {
				if !allocates(t, p, k, mem) {
					large++
				}
			}
		}
	}
	if large > 400 {
		t.Error("too many are too large", large)
	}
}

func TestAllocateErrors(t *testing.T) {
	p := api.Program{Blocks: [][]api.Code{{{Op: api.NHalt}}}}
	for _, k := range []int{0, 9, -1} {
		if q, n, e := seat.Allocate(p, k); e != api.ErrArg || n != 0 || q.Blocks != nil {
			t.Error(k, e)
		}
	}
	if _, _, e := seat.Allocate(api.Program{}, 0); e != api.ErrLarge {
		t.Error(e)
	}
	if q, n, e := seat.Allocate(p, 3); e != api.OK || n != 0 || q.Regs != 5 {
		t.Error(q, n, e)
	}
	frame := api.Program{Regs: 1, Blocks: [][]api.Code{{
		{Op: api.NSw, A: -1, Imm: api.FrameAt + 4*199}, {Op: api.NLb, A: -1, Imm: api.FrameAt + 8}, {Op: api.NLw, A: 0, Imm: api.FrameAt}, {Op: api.NLw, A: -1, Imm: api.FrameAt + 2},
		{Op: api.NLw, A: -1, Imm: api.FrameAt - 4}, {Op: api.NLw, A: -1, Imm: api.FrameAt + 4*200}, {Op: api.NLi, Imm: api.FrameAt}, {Op: api.NSh, A: -1, Imm: api.FrameAt + 8}, {Op: api.NHalt}}}}
	if l, e := seat.Frame(frame); !slices.Equal(l, []int{2, 199}) || e != api.OK {
		t.Error(l, e)
	}
	if _, e := seat.Frame(api.Program{}); e != api.ErrLarge {
		t.Error(e)
	}
}

// Functions of 8 instructions, for the fewest registers.
func TestAllocateSmall(t *testing.T) {
	for op := api.Add; op <= api.AShr; op++ {
		f := api.Func{Params: []int{8, 8, 8}, Ret: 8, Slots: []int{8}}
		w := 8
		if op >= api.UDiv && op <= api.SRem {
			w = 32
			f.Params, f.Ret = []int{32, 32, 32}, 32
		}
		var block []api.Inst
		for i := range 7 {
			block = append(block, api.Inst{Op: op, Width: w, Args: []int{i, 2 + i}})
		}
		f.Blocks = [][]api.Inst{append(block, api.Inst{Op: api.Ret, Args: []int{9}})}
		p, e := pick.Pick(f)
		if e != api.OK {
			t.Fatal(op, e)
		}
		mem, _ := pick.Memory(f, api.Input{Args: []uint32{200, 3, 7}, Mem: [][]int{make([]int, 8)}})
		if !allocates(t, p, 2, mem) || !allocates(t, p, 1, mem) {
			t.Error("too large", op)
		}
	}
}
