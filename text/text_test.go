package text_test

import (
	"strings"
	"testing"

	"backstay/api"
	"backstay/fuzz"
	"backstay/ir"
	"backstay/text"
)

const sum = "func 8 8 : 8 :\n0:\n2 = add.1 8 0 1\nret 2\n"

const ring = "func 8 : 8 : 4 8\n0:\n1 = const 8 #0\n2 = addr 33 #1\n3 = load 8 2\nstore 2 3\njump @1\n1:\n6 = phi 8 1 6 @0 @1\n7 = cmp 1 #2 6 0\nbranch 7 @1 @2\n2:\nret 6\n"

func numbers(seed int) []int {
	l := make([]int, 120)
	for i := range l {
		seed = (seed*6364136223846793005 + 1442695040888963407)
		l[i] = seed >> 33
	}
	return l
}

// P4.1
func TestPrintAndParse(t *testing.T) {
	for _, s := range []string{sum, ring, "func : 0 :\n0:\ntrap\n", "func : 0 : 1\n0:\n0 = addr 33 #0\n1 = const 4 #15\n2 = gep.8 33 0 1\n3 = load 16 2\n4 = padd 16 #8 3 3\nret\n"} {
		f, e := text.Parse(s)
		if e != api.OK || ir.Validate(f) != api.OK {
			t.Fatal(s, e)
		}
		if p, e := text.Print(f); p != s || e != api.OK {
			t.Error(s, p, e)
		}
	}
	for seed := range 400 {
		f := fuzz.Make(numbers(seed))
		s, e := text.Print(f)
		if e != api.OK {
			t.Fatal(seed, e)
		}
		if g, e := text.Parse(s); e != api.OK || !ir.Same(f, g) {
			t.Error(seed, s, e)
		}
		wrong(t, s, seed)
	}
	if _, e := text.Print(api.Func{}); e != api.ErrLarge {
		t.Error(e)
	}
	f, _ := text.Parse(sum)
	f.Blocks[0][0].Args[1] = 9
	if s, e := text.Print(f); s != "" || e != api.ErrType {
		t.Error(s, e)
	}
}

// wrong changes a text a little; what is still read must be the text of what is read.
func wrong(t *testing.T, s string, seed int) {
	t.Helper()
	at := seed * 31 % len(s)
	for _, c := range []string{"", " ", "\n", "0", "1", "-", "+", "@", ":", "#", ".", "\t", "x"} {
		for _, u := range []string{s[:at] + c + s[at+1:], s[:at] + c + s[at:]} {
			if f, e := text.Parse(u); e == api.OK {
				if p, _ := text.Print(f); p != u {
					t.Errorf("%q is read as %q", u, p)
				}
			}
		}
	}
}

func TestSyntax(t *testing.T) {
	for _, s := range []string{
		"", "\n", "func", "func : 0 :\n", sum[:len(sum)-1], sum + "\n", sum + "ret\n", " " + sum, "\n" + sum,
		strings.Replace(sum, "8", "08", 1), strings.Replace(sum, "8", "+8", 1), strings.Replace(sum, " ", "  ", 1),
		strings.Replace(sum, "add.1", "add", 1) + " ", strings.Replace(sum, "add.1", "add.0", 1), strings.Replace(sum, "add.1", "add.", 1),
		strings.Replace(sum, "2 = ", "3 = ", 1), strings.Replace(sum, "2 = ", "", 1), strings.Replace(sum, "0:", "1:", 1),
		strings.Replace(sum, "0:", "00:", 1), strings.Replace(sum, "0:\n", "", 1), strings.Replace(sum, "0:\n", "0:\n\n", 1),
		strings.Replace(sum, "add", "adds", 1), strings.Replace(sum, "0 1", "0 9", 1), strings.Replace(sum, "0 1", "0 1 1", 1),
		strings.Replace(sum, "ret 2", "ret 3", 1), strings.Replace(sum, "\n", "\r\n", 1), strings.Replace(ring, "#2", "2", 1),
		strings.Replace(ring, "#2", "#4294967298", 1), strings.Replace(ring, "@1\n1", "1\n1", 1), strings.Replace(ring, "#0", "#-0", 1),
		strings.Replace(ring, "6 @0", "@0 6", 1), strings.Replace(ring, "store", "9 = store", 1), "x" + sum, "func : 0 :\nret\n",
	} {
		if f, e := text.Parse(s); e != api.ErrSyntax || f.Blocks != nil {
			t.Errorf("%q: %v %v", s, f, e)
		}
	}
}

// P4.2
func TestNames(t *testing.T) {
	seen := map[string]bool{}
	for op := api.Const; op <= api.Trap; op++ {
		name, e := text.Name(op)
		back, e2 := text.Op(name)
		if back != op || e != api.OK || e2 != api.OK || seen[name] {
			t.Error(op, name, back, e, e2)
		}
		seen[name] = true
	}
	for op, name := range map[int]string{api.Const: "const", api.AShr: "ashr", api.PSub: "psub", api.Trap: "trap", api.Phi: "phi"} {
		if s, _ := text.Name(op); s != name {
			t.Error(op, s)
		}
	}
	for _, op := range []int{-1, 33} {
		if s, e := text.Name(op); s != "" || e != api.ErrNone {
			t.Error(op, s, e)
		}
	}
	for _, name := range []string{"", "Add", "var", "add "} {
		if op, e := text.Op(name); op != 0 || e != api.ErrNone {
			t.Error(name, op, e)
		}
	}
}

func TestLines(t *testing.T) {
	f, _ := text.Parse(ring)
	for v, want := range map[int]string{1: "1 = const 8 #0", 4: "store 2 3", 6: "6 = phi 8 1 6 @0 @1", 8: "branch 7 @1 @2", 9: "ret 6"} {
		if s, e := text.Line(f, v); s != want || e != api.OK {
			t.Error(v, s, e)
		}
	}
	for _, v := range []int{-1, 0, 10} {
		if s, e := text.Line(f, v); s != "" || e != api.ErrNone {
			t.Error(v, s, e)
		}
	}
	if _, e := text.Line(api.Func{}, 0); e != api.ErrLarge {
		t.Error(e)
	}
	if n, e := text.Lines(sum); n != 4 || e != api.OK {
		t.Error(n, e)
	}
	if n, e := text.Lines("ret\n"); n != 0 || e != api.ErrSyntax {
		t.Error(n, e)
	}
	other := strings.Replace(sum, "add.1", "add.2", 1)
	short := "func : 0 :\n0:\nret\n"
	long := "func : 0 :\n0:\nret\n1:\nret\n"
	for _, c := range []struct {
		s, t string
		n    int
		is   bool
		e    api.Errno
	}{{sum, sum, 0, false, api.OK}, {sum, other, 2, true, api.OK}, {short, long, 3, true, api.OK}, {long, short, 3, true, api.OK}, {sum, ring, 0, true, api.OK}, {sum, "", 0, false, api.ErrSyntax}, {"", sum, 0, false, api.ErrSyntax}} {
		if n, is, e := text.Differ(c.s, c.t); n != c.n || is != c.is || e != c.e {
			t.Error(c, n, is, e)
		}
	}
}
