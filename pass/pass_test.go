package pass_test

import (
	"slices"
	"testing"

	"backstay/api"
	"backstay/bits"
	"backstay/flow"
	"backstay/fuzz"
	"backstay/ir"
	"backstay/pass"
	"backstay/refine"
	"backstay/run"
	"backstay/text"
)

func parse(t *testing.T, s string) api.Func {
	t.Helper()
	f, e := text.Parse(s)
	if e != api.OK {
		t.Fatalf("%q: %v", s, e)
	}
	return f
}

func numbers(seed int) []int {
	l := make([]int, 160)
	for i := range l {
		seed = seed*6364136223846793005 + 1442695040888963407
		l[i] = seed >> 33
	}
	return l
}

func size(f api.Func) int {
	n, _ := ir.Count(f)
	return n
}

// keeps checks that a pass did not change what is permitted.
func keeps(t *testing.T, name string, f, g api.Func) {
	t.Helper()
	if alike, e := ir.Alike(f, g); !alike || e != api.OK {
		t.Fatal(name, f, g, e)
	}
	if size(g) > size(f) || len(g.Blocks) > len(f.Blocks) {
		t.Error(name, "has grown", f, g)
	}
	inputs, _ := fuzz.Inputs(f, 3)
	for _, in := range inputs {
		s, e := run.All(f, in)
		if e != api.OK || slices.ContainsFunc(s, func(o api.Outcome) bool { return o.Kind == api.Long }) {
			continue
		}
		free := slices.ContainsFunc(s, func(o api.Outcome) bool { return o.Kind == api.Undefined })
		u, e := run.All(g, in)
		if e != api.OK && !free || e == api.OK && !refine.PermitsAll(s, u) {
			a, _ := text.Print(f)
			b, _ := text.Print(g)
			t.Fatal(name, a, b, in, s, u, e)
		}
	}
}

// reached are the numbers of the reached blocks.
func reached(f api.Func) []int {
	g, _ := ir.Graph(f)
	l, _ := flow.Reached(g)
	return l
}

func values(f api.Func) []api.Inst {
	l := make([]api.Inst, len(f.Params))
	for i := range l {
		l[i].Op = -1
	}
	return slices.Concat(l, slices.Concat(f.Blocks...))
}

// isFoldable tells whether an instruction should have been computed.
func isFoldable(all []api.Inst, x api.Inst) bool {
	if x.Op == api.Branch {
		return all[x.Args[0]].Op == api.Const
	}
	if !(x.Op >= api.Add && x.Op <= api.Cmp || x.Op >= api.ZExt && x.Op <= api.Trunc) {
		return false
	}
	for _, a := range x.Args {
		if all[a].Op != api.Const {
			return false
		}
	}
	if x.Op < api.Cmp {
		_, is, _ := bits.Do(x.Op, x.Width, all[x.Args[0]].Imm, all[x.Args[1]].Imm)
		broken, _ := bits.Breaks(x.Op, x.Flags, x.Width, all[x.Args[0]].Imm, all[x.Args[1]].Imm)
		return is && !broken
	}
	return true
}

func same(x, y api.Inst) bool {
	return x.Op == y.Op && x.Width == y.Width && x.Flags == y.Flags && x.Imm == y.Imm && slices.Equal(x.Args, y.Args)
}

func isFolded(f api.Func) bool {
	all := values(f)
	for _, b := range reached(f) {
		for _, x := range f.Blocks[b] {
			if isFoldable(all, x) {
				return false
			}
		}
	}
	return true
}

func isNumbered(f api.Func) bool {
	for _, block := range f.Blocks {
		for i, x := range block {
			for _, y := range block[:i] {
				if same(x, y) && (x.Op <= api.PSub || x.Op == api.Addr || x.Op == api.Gep) {
					return false
				}
			}
		}
	}
	return true
}

func isBare(f api.Func) bool {
	for v, x := range values(f) {
		if users, _ := ir.Users(f, v); x.Width > 0 && x.Op != api.Load && len(users) == 0 {
			return false
		}
	}
	return len(reached(f)) == len(f.Blocks)
}

func isThreaded(f api.Func) bool {
	for _, b := range reached(f) {
		block := f.Blocks[b]
		if b > 0 && len(block) == 1 && block[0].Op == api.Jump && block[0].To[0] != b && f.Blocks[block[0].To[0]][0].Op != api.Phi {
			return false
		}
	}
	return true
}

// isPromoted looks for a simple slot that is loaded from behind a store.
func isPromoted(f api.Func) bool {
	if len(f.Blocks) != 1 {
		return true
	}
	all := values(f)
	for slot := range f.Slots {
		width, simple, stored, wrong := 0, true, false, false
		for _, x := range f.Blocks[0] {
			for i, a := range x.Args {
				if all[a].Op != api.Addr || int(all[a].Imm) != slot {
					continue
				}
				w := x.Width
				if x.Op == api.Store {
					w, _ = ir.Kind(f, x.Args[1])
				}
				simple = simple && i == 0 && (x.Op == api.Load || x.Op == api.Store) && (width == 0 || width == w)
				width = w
				stored = stored || x.Op == api.Store
				wrong = wrong || x.Op == api.Load && stored
			}
		}
		if simple && wrong {
			return false
		}
	}
	return true
}

func isConverted(f api.Func) bool {
	g, _ := ir.Graph(f)
	for _, b := range reached(f) {
		x := f.Blocks[b][len(f.Blocks[b])-1]
		if x.Op != api.Branch {
			continue
		}
		ends := map[int]bool{}
		single := true
		for _, arm := range x.To {
			before, _ := flow.Before(g, arm)
			single = single && len(before) == 1 && len(f.Blocks[arm]) == 1 && f.Blocks[arm][0].Op == api.Jump
			if single {
				ends[f.Blocks[arm][0].To[0]] = true
			}
		}
		for end := range ends {
			if block := f.Blocks[end]; single && len(ends) == 1 && (len(block) < 2 || block[1].Op != api.Phi) {
				return false
			}
		}
	}
	return true
}

func isMerged(f api.Func) bool {
	l := reached(f)
	for i, b := range l {
		for _, c := range l[:i] {
			last := f.Blocks[b][len(f.Blocks[b])-1].Op
			if c == 0 || last != api.Ret && last != api.Trap || !slices.EqualFunc(f.Blocks[b], f.Blocks[c], same) {
				continue
			}
			if !slices.ContainsFunc(f.Blocks[b], func(x api.Inst) bool { return x.Width > 0 }) {
				return false
			}
		}
	}
	return true
}

type random struct{ seed int }

func (r *random) next(n int) int {
	r.seed = r.seed*6364136223846793005 + 1442695040888963407
	return int(uint(r.seed)>>33) % n
}

// memory is a block of loads and stores.
func memory(seed int) api.Func {
	r := &random{seed}
	f := api.Func{Params: []int{8, 16}, Ret: 8, Slots: []int{1 + r.next(4), 2}}
	block := []api.Inst{{Op: api.Addr, Width: api.Pointer}, {Op: api.Addr, Width: api.Pointer, Imm: 1}, {Op: api.Addr, Width: api.Pointer}, {Op: api.Poison, Width: 8}}
	values := map[int][]int{8: {0, 5}, 16: {1}, api.Pointer: {2, 3, 4}}
	pick := func(w int) int { return values[w][r.next(len(values[w]))] }
	for range 3 + r.next(10) {
		w := 8 + 8*(r.next(8)/7)
		p := pick(api.Pointer)
		n := 2 + len(block)
		switch c := r.next(20); {
		case c < 9:
			block = append(block, api.Inst{Op: api.Load, Width: w, Args: []int{p}})
			values[w] = append(values[w], n)
		case c < 19:
			block = append(block, api.Inst{Op: api.Store, Args: []int{p, pick(w)}})
		default:
			block = append(block, api.Inst{Op: api.Gep, Width: api.Pointer, Args: []int{p, 0}})
			values[api.Pointer] = append(values[api.Pointer], n)
		}
	}
	f.Blocks = [][]api.Inst{append(block, api.Inst{Op: api.Ret, Args: []int{values[8][len(values[8])-1]}})}
	return f
}

// arms is a row of diamonds without anything in their arms, and with ends that are often equal.
func arms(seed int) api.Func {
	r := &random{seed}
	f := api.Func{Params: []int{1, 1, 8}, Ret: 8, Slots: []int{1}}
	f.Blocks = [][]api.Inst{{{Op: api.Addr, Width: api.Pointer}, {Op: api.Freeze, Width: 8, Args: []int{2}}, {Op: api.Branch, Args: []int{r.next(2)}, To: []int{1, 2}}}}
	n := 6
	last := 4
	for k := range 2 {
		b := 1 + 3*k
		f.Blocks = append(f.Blocks, []api.Inst{{Op: api.Jump, To: []int{b + 2}}}, []api.Inst{{Op: api.Jump, To: []int{b + 2}}})
		n += 2
		var end []api.Inst
		before := last
		for i := range r.next(3) {
			end = append(end, api.Inst{Op: api.Phi, Width: 8, Args: []int{before, []int{2, 4}[r.next(2)]}, To: []int{b, b + 1}})
			last = n + i
		}
		end = append(end, api.Inst{Op: api.Branch, Args: []int{r.next(2)}, To: []int{b + 3, b + 4}})
		f.Blocks = append(f.Blocks, end)
		n += len(end)
	}
	for range 2 {
		var end []api.Inst
		if r.next(2) == 0 {
			end = append(end, api.Inst{Op: api.Store, Args: []int{3, []int{2, 4}[r.next(2)]}})
		}
		if r.next(4) == 0 {
			end = append(end, api.Inst{Op: api.Trap})
		} else {
			end = append(end, api.Inst{Op: api.Ret, Args: []int{[]int{2, 4, last}[r.next(3)]}})
		}
		f.Blocks = append(f.Blocks, end)
	}
	return f
}

// P15.1 and P15.2: what is true of each result, and what is kept.
func TestMany(t *testing.T) {
	checks := []func(f api.Func) bool{isFolded, isNumbered, isBare, isThreaded, isPromoted, isConverted, isMerged}
	changed := make([]int, len(checks))
	for seed := range 1200 {
		f := fuzz.Make(numbers(seed))
		switch seed % 4 {
		case 1:
			f = memory(seed)
		case 2:
			f = arms(seed)
		}
		if e := ir.Validate(f); e != api.OK {
			t.Fatal(seed, f, e)
		}
		for i, name := range pass.Names() {
			g, e := pass.Apply(f, name)
			if e != api.OK {
				t.Fatal(seed, name, e)
			}
			keeps(t, name, f, g)
			if !checks[i](g) {
				a, _ := text.Print(f)
				b, _ := text.Print(g)
				t.Error(name, a, b)
			}
			if !checks[i](f) {
				changed[i]++
			}
			if again, _ := pass.Apply(f, name); !ir.Same(g, again) {
				t.Error(name, "is not the same twice")
			}
		}
		g, e := pass.Clean(f)
		row := f
		for _, name := range []string{"fold", "number", "dead", "thread", "merge", "dead"} {
			row, _ = pass.Apply(row, name)
		}
		if e != api.OK || !isBare(g) || !ir.Same(g, row) {
			t.Error(seed, e)
		}
		keeps(t, "clean", f, g)
	}
	for i, n := range changed {
		if n < 10 {
			t.Error("too few functions for", pass.Names()[i], n)
		}
	}
}

// Any passes one after another keep what is permitted.
func TestRowsOfPasses(t *testing.T) {
	names := pass.Names()
	for seed := range 300 {
		f := fuzz.Make(numbers(seed + 5000))
		g := f
		for k := range 6 {
			g, _ = pass.Apply(g, names[(seed*(k+3)+k*k)%7])
			keeps(t, "row", f, g)
		}
	}
}

func TestExamples(t *testing.T) {
	for _, c := range []struct{ name, before, after string }{
		{"fold", "func : 8 :\n0:\n0 = const 8 #250\n1 = const 8 #10\n2 = add 8 0 1\nret 2\n", "func : 8 :\n0:\n0 = const 8 #250\n1 = const 8 #10\n2 = const 8 #4\nret 2\n"},
		{"fold", "func : 8 :\n0:\n0 = const 8 #1\n1 = const 8 #0\n2 = udiv 8 0 1\nret 2\n", "func : 8 :\n0:\n0 = const 8 #1\n1 = const 8 #0\n2 = udiv 8 0 1\nret 2\n"},
		{"fold", "func 8 8 : 8 :\n0:\n2 = const 1 #0\nbranch 2 @1 @2\n1:\njump @2\n2:\n5 = phi 8 0 1 @0 @1\nret 5\n", "func 8 8 : 8 :\n0:\n2 = const 1 #0\njump @1\n1:\n4 = phi 8 0 @0\nret 4\n"},
		{"number", "func 8 : 8 :\n0:\n1 = add 8 0 0\n2 = add 8 0 0\n3 = mul 8 1 2\n4 = mul 8 1 1\n5 = sub 8 3 4\nret 5\n", "func 8 : 8 :\n0:\n1 = add 8 0 0\n2 = mul 8 1 1\n3 = sub 8 2 2\nret 3\n"},
		{"number", "func 8 : 8 :\n0:\n1 = add 8 0 0\n2 = add.1 8 0 0\n3 = sub 8 1 2\nret 3\n", "func 8 : 8 :\n0:\n1 = add 8 0 0\n2 = add.1 8 0 0\n3 = sub 8 1 2\nret 3\n"},
		{"number", "func : 8 :\n0:\n0 = any 8\n1 = any 8\n2 = sub 8 0 1\nret 2\n", "func : 8 :\n0:\n0 = any 8\n1 = any 8\n2 = sub 8 0 1\nret 2\n"},
		{"dead", "func 8 : 8 :\n0:\n1 = add 8 0 0\n2 = mul 8 1 1\nret 0\n1:\nret 1\n", "func 8 : 8 :\n0:\nret 0\n"},
		{"thread", "func 1 : 1 :\n0:\nbranch 0 @1 @2\n1:\njump @3\n2:\njump @3\n3:\nret 0\n", "func 1 : 1 :\n0:\njump @1\n1:\nret 0\n"},
		{"thread", "func : 0 :\n0:\njump @1\n1:\njump @2\n2:\njump @1\n", "func : 0 :\n0:\njump @1\n1:\njump @1\n"},
		{"promote", "func 8 : 8 : 1\n0:\n1 = addr 33 #0\n2 = load 8 1\nstore 1 0\n4 = load 8 1\n5 = sub 8 2 4\nret 5\n", "func 8 : 8 : 1\n0:\n1 = addr 33 #0\n2 = load 8 1\nstore 1 0\n4 = sub 8 2 0\nret 4\n"},
		{"promote", "func 8 : 8 : 2\n0:\n1 = addr 33 #0\n2 = load 16 1\nstore 1 0\n4 = load 8 1\nret 4\n", "func 8 : 8 : 2\n0:\n1 = addr 33 #0\n2 = load 16 1\nstore 1 0\n4 = load 8 1\nret 4\n"},
		{"convert", "func 1 8 8 : 8 :\n0:\nbranch 0 @1 @2\n1:\njump @3\n2:\njump @3\n3:\n6 = phi 8 1 2 @1 @2\nret 6\n", "func 1 8 8 : 8 :\n0:\n3 = select 8 0 1 2\njump @1\n1:\n5 = phi 8 3 @0\nret 5\n"},
		{"convert", "func 1 8 8 : 8 :\n0:\njump @1\n1:\n4 = phi 8 1 2 4 @0 @2 @3\nbranch 0 @2 @3\n2:\njump @1\n3:\njump @1\n", "func 1 8 8 : 8 :\n0:\njump @1\n1:\n4 = phi 8 1 5 @0 @1\n5 = select 8 0 2 4\njump @1\n"},
		{"merge", "func 1 8 : 8 :\n0:\nbranch 0 @1 @2\n1:\nret 1\n2:\nret 1\n", "func 1 8 : 8 :\n0:\njump @1\n1:\nret 1\n"},
		{"merge", "func 1 8 : 8 :\n0:\nbranch 0 @1 @2\n1:\n3 = const 8 #1\nret 1\n2:\n5 = const 8 #1\nret 1\n", "func 1 8 : 8 :\n0:\nbranch 0 @1 @2\n1:\n3 = const 8 #1\nret 1\n2:\n5 = const 8 #1\nret 1\n"},
	} {
		f := parse(t, c.before)
		g, e := pass.Apply(f, c.name)
		if s, _ := text.Print(g); s != c.after || e != api.OK {
			t.Errorf("%s of\n%s is\n%s, %v", c.name, c.before, s, e)
		}
		keeps(t, c.name, f, g)
	}
}

// P15.3
func TestNamesAndErrors(t *testing.T) {
	if l := pass.Names(); !slices.Equal(l, []string{"fold", "number", "dead", "thread", "promote", "convert", "merge"}) {
		t.Error(l)
	}
	good := parse(t, "func : 0 :\n0:\nret\n")
	for _, name := range []string{"", "clean", "Fold"} {
		if g, e := pass.Apply(good, name); e != api.ErrNone || g.Blocks != nil {
			t.Error(name, g, e)
		}
	}
	if _, e := pass.Apply(api.Func{}, "x"); e != api.ErrLarge {
		t.Error(e)
	}
	for i, do := range []func(f api.Func) (api.Func, api.Errno){pass.Fold, pass.Number, pass.Dead, pass.Thread, pass.Promote, pass.Convert, pass.Merge, pass.Clean} {
		if g, e := do(api.Func{Blocks: [][]api.Inst{nil}}); e != api.ErrRule || g.Blocks != nil {
			t.Error(i, g, e)
		}
		if i == 7 {
			break
		}
		for seed := range 50 {
			f := fuzz.Make(numbers(seed))
			a, _ := do(f)
			if b, _ := pass.Apply(f, pass.Names()[i]); !ir.Same(a, b) {
				t.Error(i, seed)
			}
		}
	}
	f := parse(t, "func 1 8 : 8 :\n0:\n2 = const 8 #1\n3 = add 8 2 2\nbranch 0 @1 @2\n1:\nret 3\n2:\nret 3\n")
	g, _ := pass.Clean(f)
	if s, _ := text.Print(g); s != "func 1 8 : 8 :\n0:\n2 = const 8 #2\njump @1\n1:\nret 2\n" {
		t.Error(s)
	}
}
