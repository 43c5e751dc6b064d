package chain_test

import (
	"slices"
	"strconv"
	"strings"
	"testing"

	"backstay/api"
	"backstay/chain"
	"backstay/fuzz"
	"backstay/ir"
	"backstay/pass"
	"backstay/pick"
	"backstay/refine"
	"backstay/run"
	"backstay/text"
)

const (
	sum     = "func 4 4 : 4 :\n0:\n2 = add.2 4 0 1\nret 2\n"
	divided = "func 3 3 : 3 : 2\n0:\n2 = udiv 3 0 1\n3 = const 3 #0\n4 = add 3 2 3\nret 4\n"
	choice  = "func 1 3 : 3 :\n0:\nbranch 0 @1 @2\n1:\njump @3\n2:\njump @3\n3:\n5 = const 3 #2\n6 = const 3 #3\n7 = mul 3 5 6\n8 = add 3 1 7\nret 8\n"
)

func compile(t *testing.T, s string, set int) api.Chain {
	t.Helper()
	c, e := chain.Compile(s, set)
	if e != api.OK {
		t.Fatalf("%q: %v", s, e)
	}
	return c
}

func parse(t *testing.T, s string) api.Func {
	t.Helper()
	f, e := text.Parse(s)
	if e != api.OK {
		t.Fatalf("%q: %v", s, e)
	}
	return f
}

// P27.1
func TestValidate(t *testing.T) {
	change := func(e api.Errno, what func(c *api.Chain)) {
		t.Helper()
		c := compile(t, choice, 1)
		what(&c)
		_, e1 := chain.Check(c)
		_, e2 := chain.At(c, api.Input{Args: []uint32{0, 0}})
		_, _, _, e3 := chain.Run(c, api.Input{Args: []uint32{0, 0}})
		_, e4 := chain.Permitted(c, api.Input{Args: []uint32{0, 0}})
		_, e5 := chain.Passes(c)
		_, _, e6 := chain.Size(c)
		_, e7 := chain.Forge(c, 0)
		for i, got := range []api.Errno{chain.Validate(c), e1, e2, e3, e4, e5, e6, e7} {
			if got != e {
				t.Error(i, got, e)
			}
		}
	}
	change(api.OK, func(c *api.Chain) {})
	change(api.ErrArg, func(c *api.Chain) { c.Set = 2; c.Texts = nil })
	change(api.ErrArg, func(c *api.Chain) { c.Set = -1 })
	change(api.ErrLarge, func(c *api.Chain) { c.Texts = nil; c.Code.Regs = -1 })
	change(api.ErrLarge, func(c *api.Chain) { c.Texts = slices.Repeat([]string{"x"}, 13) })
	change(api.OK, func(c *api.Chain) { c.Texts = slices.Repeat(c.Texts[:1], 12) })
	change(api.ErrSyntax, func(c *api.Chain) { c.Texts = append(c.Texts, sum, "") })
	change(api.ErrFit, func(c *api.Chain) { c.Texts = append(c.Texts, sum); c.Code.Regs = -1 })
	change(api.ErrLarge, func(c *api.Chain) { c.Code.Regs = 201; c.Allocated.Blocks[0] = nil })
	change(api.ErrRule, func(c *api.Chain) { c.Allocated.Blocks[0] = nil; c.Image = make([]byte, 8193) })
	change(api.ErrLarge, func(c *api.Chain) { c.Allocated.Regs = 5 })
	change(api.ErrLarge, func(c *api.Chain) { c.Image = make([]byte, 8193) })
	c := compile(t, choice, 0)
	c.Allocated.Regs = 11
	if e := chain.Validate(c); e != api.ErrLarge {
		t.Error(e)
	}
}

// P27.2
func TestCompile(t *testing.T) {
	for _, s := range []string{sum, divided, choice} {
		for set := range 2 {
			c := compile(t, s, set)
			f := parse(t, c.Texts[len(c.Texts)-1])
			p, _ := pick.Pick(f)
			names, e := chain.Passes(c)
			if c.Set != set || c.Texts[0] != s || !chain.Same(api.Chain{Code: p}, api.Chain{Code: c.Code}) || c.Allocated.Regs != [2]int{10, 4}[set] || chain.Validate(c) != api.OK {
				t.Error(s, set, c)
			}
			if len(names) != len(c.Texts)-1 || slices.Contains(names, "") || e != api.OK {
				t.Error(s, set, names, e)
			}
			n, e := chain.Check(c)
			if n != len(c.Texts)-1+3 || e != api.OK {
				t.Error(s, set, n, e)
			}
			insts, size, e := chain.Size(c)
			if count, _ := ir.Count(parse(t, s)); insts != count-len(parse(t, s).Params) || size != len(c.Image) || size == 0 || e != api.OK {
				t.Error(s, set, insts, size, e)
			}
			if again := compile(t, s, set); !chain.Same(c, again) {
				t.Error(s, set, "another chain")
			}
		}
	}
	for i, x := range []struct {
		s   string
		set int
		e   api.Errno
	}{{"", 2, api.ErrArg}, {sum, -1, api.ErrArg}, {"", 0, api.ErrSyntax}, {sum + " ", 1, api.ErrSyntax}} {
		if c, e := chain.Compile(x.s, x.set); e != x.e || c.Texts != nil {
			t.Error(i, e)
		}
	}
	f := api.Func{Params: []int{8, 8}, Ret: 8, Blocks: [][]api.Inst{nil}}
	for i := range 39 {
		f.Blocks[0] = append(f.Blocks[0], api.Inst{Op: api.PSub, Width: 8, Imm: 4, Args: []int{i, i + 1}})
	}
	f.Blocks[0] = append(f.Blocks[0], api.Inst{Op: api.Ret, Args: []int{40}})
	s, e := text.Print(f)
	if c, e2 := chain.Compile(s, 1); e != api.OK || e2 != api.ErrLarge || c.Texts != nil {
		t.Error(e, e2)
	}
}

// Functions of at most 8 instructions and 3 blocks are not too large.
func TestCompileSmall(t *testing.T) {
	small := 0
	for seed := range 6000 {
		l := make([]int, 90)
		s := seed
		for i := range l {
			s = s*6364136223846793005 + 1442695040888963407
			l[i] = s >> 33
		}
		f := fuzz.Make(l)
		n := 0
		for _, block := range f.Blocks {
			n += len(block)
			for _, x := range block {
				if x.Op >= api.UDiv && x.Op <= api.SRem && x.Width < 32 || x.Op == api.PAdd || x.Op == api.PSub {
					n = 99
				}
			}
		}
		if n > 8 || len(f.Blocks) > 3 {
			continue
		}
		small++
		source, _ := text.Print(f)
		for set := range 2 {
			if _, e := chain.Compile(source, set); e != api.OK {
				t.Error(source, e)
			}
		}
	}
	if small < 100 {
		t.Error(small)
	}
	for _, op := range []string{"ashr 3", "shl.3 3", "cmp 1 #9"} {
		source := "func 3 3 3 : 0 :\n0:\n"
		for i := range 7 {
			source += strconv.Itoa(3+i) + " = " + op + " " + strconv.Itoa(i%3) + " " + strconv.Itoa((i+1+i/3)%3) + "\n"
		}
		for set := range 2 {
			if _, e := chain.Compile(source+"ret\n", set); e != api.OK {
				t.Error(source, e)
			}
		}
	}
}

func TestPasses(t *testing.T) {
	c := compile(t, sum, 0)
	c.Texts = []string{divided, divided, strings.Replace(divided, "#0", "#1", 1)}
	names, e := chain.Passes(c)
	if !slices.Equal(names, []string{"fold", ""}) || e != api.OK {
		t.Error(names, e)
	}
	twice := "func 4 : 4 :\n0:\n1 = const 4 #1\n2 = const 4 #1\nret 0\n"
	once := "func 4 : 4 :\n0:\n1 = const 4 #1\nret 0\n"
	c.Texts = []string{twice, once, "func 4 : 4 :\n0:\nret 0\n"}
	if names, _ := chain.Passes(c); !slices.Equal(names, []string{"number", "dead"}) {
		t.Error(names)
	}
}

// P27.3
func TestLinks(t *testing.T) {
	for set := range 2 {
		c := compile(t, choice, set)
		n := len(c.Texts) - 1
		check := func(want int, e api.Errno, what func(c *api.Chain)) {
			t.Helper()
			d := compile(t, choice, set)
			what(&d)
			if got, errno := chain.Check(d); got != want || errno != e {
				t.Error(got, errno, want, e)
			}
		}
		check(n+3, api.OK, func(c *api.Chain) {})
		check(n+2, api.ErrProof, func(c *api.Chain) { c.Image = nil })
		check(n+1, api.ErrProof, func(c *api.Chain) { c.Allocated = stops() })
		check(n, api.ErrProof, func(c *api.Chain) { c.Code = stops(); c.Image = nil })
		check(n, api.ErrProof, func(c *api.Chain) {
			c.Code = api.Program{Blocks: [][]api.Code{{{Op: api.NJmp}}}}
		})
		check(n-1, api.ErrProof, func(c *api.Chain) { c.Texts[n] = other })
		check(0, api.ErrProof, func(c *api.Chain) { c.Texts[1] = other; c.Image = nil })
		check(0, api.ErrLarge, func(c *api.Chain) { c.Texts[1] = large })
		in := api.Input{Args: []uint32{1, 5}}
		if got, e := chain.At(c, in); got != n+3 || e != api.OK {
			t.Error(got, e)
		}
		c.Image = nil
		if got, e := chain.At(c, in); got != n+2 || e != api.ErrProof {
			t.Error(got, e)
		}
		if got, e := chain.At(c, api.Input{}); got != 0 || e != api.ErrArg {
			t.Error(got, e)
		}
	}
	// Where the source divides by 0, nothing is asked.
	c := compile(t, divided, 0)
	c.Image = nil
	for b, want := range map[uint32]api.Errno{0: api.OK, 1: api.ErrProof} {
		in := api.Input{Args: []uint32{3, b}, Mem: [][]int{{0, 0}}}
		if _, e := chain.At(c, in); e != want {
			t.Error(b, e)
		}
		if is, e := chain.Permitted(c, in); is != (b == 0) || e != api.OK {
			t.Error(b, is, e)
		}
	}
	wide := compile(t, "func 8 1 : 8 :\n0:\nret 0\n", 0)
	if n, e := chain.Check(wide); n != 0 || e != api.ErrLarge {
		t.Error(n, e)
	}
	choices := compile(t, "func : 1 :\n0:\n0 = any 9\n1 = trunc 1 0\nret 1\n", 0)
	_, e1 := chain.Check(choices)
	_, e2 := chain.At(choices, api.Input{})
	_, e3 := chain.Permitted(choices, api.Input{})
	if e1 != api.ErrLarge || e2 != api.ErrLarge || e3 != api.ErrLarge {
		t.Error(e1, e2, e3)
	}
}

// other is not permitted by choice, nor does it permit it; large makes too many choices.
const (
	other = "func 1 3 : 3 :\n0:\n2 = const 3 #0\nret 2\n"
	large = "func 1 3 : 3 :\n0:\n2 = any 9\n3 = trunc 3 2\nret 3\n"
)

func stops() api.Program {
	return api.Program{Blocks: [][]api.Code{{{Op: api.NStop}}}}
}

func TestRun(t *testing.T) {
	for set := range 2 {
		c := compile(t, choice, set)
		out, end, n, e := chain.Run(c, api.Input{Args: []uint32{0, 7}})
		if out.Ret.N != 5 || end != api.Halted || n < 3 || e != api.OK {
			t.Error(set, out, end, n, e)
		}
		if _, _, _, e := chain.Run(c, api.Input{Args: []uint32{2, 7}}); e != api.ErrArg {
			t.Error(e)
		}
		c.Image = c.Image[:len(c.Image)-1-3*(1-set)]
		if out, end, _, e := chain.Run(c, api.Input{Args: []uint32{0, 7}}); end != api.Fault || !run.SameOutcome(out, api.Outcome{}) || e != api.OK {
			t.Error(set, out, end, e)
		}
	}
}

// P27.4
func TestForge(t *testing.T) {
	base := compile(t, choice, 1)
	changed, caught := 0, 0
	for k := range 500 {
		c, e := chain.Forge(base, k-20)
		if e != api.OK || chain.Validate(c) != api.OK {
			t.Fatal(k, e)
		}
		if chain.Same(c, base) {
			continue
		}
		changed++
		_, e = chain.Check(c)
		if e == api.ErrProof {
			caught++
			continue
		}
		for i := range 16 {
			in, _ := refine.Input(parse(t, choice), i)
			if is, e2 := chain.Permitted(c, in); e == api.OK && (!is || e2 != api.OK) {
				t.Error(k, in, "is accepted, and not permitted")
			}
		}
	}
	if changed < 300 || caught < 100 {
		t.Error(changed, caught)
	}
	if again := compile(t, choice, 1); !chain.Same(base, again) {
		t.Error("the chain was changed")
	}
}

func TestSame(t *testing.T) {
	base := compile(t, choice, 0)
	for i, change := range []func(c *api.Chain){
		func(c *api.Chain) { c.Set = 1 },
		func(c *api.Chain) { c.Texts[0] += " " },
		func(c *api.Chain) { c.Texts = c.Texts[:1] },
		func(c *api.Chain) { c.Code.Regs++ },
		func(c *api.Chain) { c.Code.Blocks[0][0].Imm++ },
		func(c *api.Chain) { c.Allocated.Blocks = c.Allocated.Blocks[:0] },
		func(c *api.Chain) { c.Image[0]++ },
	} {
		c := compile(t, choice, 0)
		if !chain.Same(base, c) {
			t.Error(i)
		}
		change(&c)
		if chain.Same(base, c) {
			t.Error(i)
		}
	}
	if !chain.Same(api.Chain{Image: []byte{}, Code: api.Program{Blocks: [][]api.Code{nil}}}, api.Chain{Texts: []string{}, Code: api.Program{Blocks: [][]api.Code{{}}}}) {
		t.Error("nil and empty are one value")
	}
}

// The law, for many functions: the bytes of both sets do only what the source permits.
func TestTheLaw(t *testing.T) {
	checked := 0
	for seed := range 500 {
		l := make([]int, 160)
		s := seed
		for i := range l {
			s = s*6364136223846793005 + 1442695040888963407
			l[i] = s >> 33
		}
		f := fuzz.Make(l)
		source, _ := text.Print(f)
		for set := range 2 {
			c, e := chain.Compile(source, set)
			if e != api.OK {
				if e != api.ErrLarge {
					t.Error(seed, e)
				}
				continue
			}
			inputs, _ := fuzz.Inputs(f, 5)
			for _, in := range inputs {
				if is, e := chain.Permitted(c, in); e == api.OK && !is {
					t.Error(seed, set, source, in)
				}
				if n, e := chain.At(c, in); e == api.ErrProof {
					t.Error(seed, set, source, in, n)
				}
			}
			if n, e := chain.Check(c); e == api.OK {
				checked++
			} else if e != api.ErrLarge {
				t.Error(seed, set, n, e)
			}
			// What comes of the last text is permitted by the source, too.
			last, e := chain.Compile(c.Texts[len(c.Texts)-1], set)
			if e != api.OK {
				continue
			}
			last.Texts = append(slices.Clone(c.Texts[:1]), last.Texts...)
			if is, e := chain.Permitted(last, inputs[1]); e == api.OK && !is {
				t.Error(seed, set, source)
			}
		}
	}
	if checked < 50 {
		t.Error(checked)
	}
	if names := pass.Names(); len(names) != 7 {
		t.Error(names)
	}
}
