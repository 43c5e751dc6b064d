package keep_test

import (
	"strconv"
	"strings"
	"testing"

	"backstay/api"
	"backstay/keep"
	"backstay/prove"
	"backstay/rule"
)

func node(op int, args ...int) api.Node {
	return api.Node{Op: op, Args: args}
}

var (
	x0 = api.Node{Op: api.Var}
	x1 = api.Node{Op: api.Var, Imm: 1}
	h0 = api.Node{Op: api.Hole}
)

func number(n uint32) api.Node {
	return api.Node{Op: api.Const, Imm: n}
}

// rules are some that are right but for the one with the number 2.
func rules() []api.Rule {
	return []api.Rule{
		{Left: []api.Node{x0, node(api.Add, 0, 0)}, Right: []api.Node{x0, number(2), node(api.Mul, 0, 1)}},
		{Left: []api.Node{x0, h0, node(api.Mul, 0, 1)}, Right: []api.Node{x0, h0, node(api.Trail, 1), node(api.Shl, 0, 2)}, Pre: []api.Cond{{Kind: 1}, {Kind: 4, Imm: 1<<32 - 1}}},
		{Left: []api.Node{x0, number(2), node(api.Mul, 0, 1)}, Right: []api.Node{x0, number(1), node(api.Shl, 0, 1)}},
		{Left: []api.Node{x0, x1, {Op: api.Add, Flags: 2, Args: []int{0, 1}}}, Right: []api.Node{x1, x0, node(api.Add, 0, 1)}},
	}
}

// many returns rules with different Keys.
func many(n int) []api.Rule {
	var l []api.Rule
	for i := range n {
		l = append(l, api.Rule{Left: []api.Node{number(uint32(i))}, Right: []api.Node{number(uint32(i))}})
	}
	return l
}

func write(t *testing.T, l []api.Rule) string {
	t.Helper()
	s, e := keep.Write(l)
	if e != api.OK {
		t.Fatal(l, e)
	}
	return s
}

func same(t *testing.T, l, m []api.Rule) bool {
	t.Helper()
	if len(l) != len(m) {
		return false
	}
	for i := range l {
		a, e := keep.Text(l[i])
		b, e2 := keep.Text(m[i])
		if a != b || e != api.OK || e2 != api.OK {
			return false
		}
	}
	return true
}

// P26.1
func TestText(t *testing.T) {
	for i, want := range []string{
		"33.0.0.0 1.0.0.0,0,0 => 33.0.0.0 0.0.0.2 3.0.0.0,0,1 if",
		"33.0.0.0 34.0.0.0 3.0.0.0,0,1 => 33.0.0.0 34.0.0.0 35.0.0.0,1 11.0.0.0,0,2 if 1.0.0 4.0.4294967295",
	} {
		r := rules()[i]
		s, e := keep.Text(r)
		if s != want || e != api.OK {
			t.Error(i, s, e)
		}
		if back, e := keep.Parse(want); e != api.OK || !same(t, []api.Rule{back}, []api.Rule{r}) {
			t.Error(i, back, e)
		}
		for at := range want {
			for _, c := range []string{"", " ", ",", ".", "0", "-", "=", "x", "\n"} {
				for _, u := range []string{want[:at] + c + want[at+1:], want[:at] + c + want[at:]} {
					if r, e := keep.Parse(u); e == api.OK {
						if again, _ := keep.Text(r); again != u {
							t.Errorf("%q is read as %q", u, again)
						}
					}
				}
			}
		}
	}
	for _, s := range []string{"", " ", "=> if", "33.0.0.0 => 33.0.0.0", "33.0.0.0 => 33.0.0.0 if ", " 33.0.0.0 => 33.0.0.0 if", "33.0.0.0 => 33.0.0.1 if", "33.0.0.0 => 33.0.0.00 if", "33.0.0.0 if", "33.0.0.0, => 33.0.0.0 if", "33.0.0.4294967296 => 33.0.0.0 if", "33.0.0.0 => 33.0.0.0 if 0.0.0"} {
		if r, e := keep.Parse(s); e != api.ErrSyntax || r.Left != nil {
			t.Errorf("%q: %v %v", s, r, e)
		}
	}
	if _, e := keep.Text(api.Rule{}); e != api.ErrLarge {
		t.Error(e)
	}
}

func TestSum(t *testing.T) {
	for _, c := range []struct {
		before int
		text   string
		want   int
	}{{0, "a", 98}, {0, "", 0}, {1000003, "", 0}, {-1, "", 1000002}, {98, "b", 98*257 + 99}, {1000002, "\xff", 1000003 - 257 + 256}, {-1 << 63, "", ((-1<<63)%1000003 + 1000003) % 1000003}} {
		if n := keep.Sum(c.before, c.text); n != c.want {
			t.Error(c, n)
		}
	}
	if keep.Sum(keep.Sum(5, "ab"), "cd") != keep.Sum(5, "abcd") {
		t.Error("sums of parts")
	}
}

func TestWriteAndRead(t *testing.T) {
	l := rules()
	s := write(t, l)
	sum := 0
	for i, line := range strings.SplitAfter(strings.TrimSuffix(s, "\n"), "\n") {
		text, _ := keep.Text(l[i])
		sum = keep.Sum(sum, text)
		if strings.TrimSuffix(line, "\n") != strconv.Itoa(sum)+" "+text {
			t.Error(i, line)
		}
	}
	if got, rest := keep.Read(s); !same(t, got, l) || rest != "" {
		t.Error(got, rest)
	}
	// Each beginning is read up to its last whole line.
	for n := range len(s) {
		got, rest := keep.Read(s[:n])
		whole := strings.Count(s[:n], "\n")
		if len(got) != whole || rest != s[strings.LastIndex(s[:n], "\n")+1:n] {
			t.Error(n, len(got), rest)
		}
	}
	for at := range len(s) {
		bad := s[:at] + string(s[at]^1) + s[at+1:]
		if got, rest := keep.Read(bad); len(got) > strings.Count(s[:at], "\n") && rest == "" {
			t.Errorf("a byte is changed, and nothing is found: %q", bad)
		}
	}
	twice := s + strings.SplitAfter(s, "\n")[0]
	if got, rest := keep.Read(twice); len(got) != 4 || rest == "" {
		t.Error(len(got), rest)
	}
	if got, rest := keep.Read(""); got != nil || rest != "" {
		t.Error(got, rest)
	}
}

func TestWriteErrors(t *testing.T) {
	long := api.Rule{Left: []api.Node{number(1<<32 - 1)}, Right: []api.Node{x0}}
	for range 11 {
		long.Left = append(long.Left, number(1<<32-1))
	}
	long.Right = append(long.Left[1:], number(7))
	text, e := keep.Text(long)
	if e != api.OK || len(text) <= api.MaxLine {
		t.Fatal(len(text), e)
	}
	for i, c := range []struct {
		l []api.Rule
		e api.Errno
	}{
		{nil, api.OK},
		{append(many(41), api.Rule{}), api.ErrLarge},
		{[]api.Rule{long, {Left: []api.Node{x0}, Right: []api.Node{x1}}}, api.ErrRule},
		{many(40), api.OK},
		{many(41), api.ErrLarge},
		{[]api.Rule{long}, api.ErrLarge},
		{append(rules(), rules()[0], long), api.ErrLarge},
		{append(rules(), rules()[0]), api.ErrRule},
	} {
		if s, e := keep.Write(c.l); e != c.e || e != api.OK && s != "" {
			t.Error(i, e)
		}
	}
	s := write(t, many(40))
	if _, is, e := keep.Add(s, rules()[0]); is || e != api.ErrLarge {
		t.Error(is, e)
	}
	if got, is, e := keep.Add(s, many(40)[39]); is || e != api.OK || got != s {
		t.Error(is, e)
	}
	if _, is, e := keep.Add("", long); is || e != api.ErrLarge {
		t.Error(is, e)
	}
	// A line more than there may be is left, though its sum is right.
	last, _ := keep.Text(many(41)[40])
	sum := 0
	for _, r := range many(40) {
		text, _ := keep.Text(r)
		sum = keep.Sum(sum, text)
	}
	more := strconv.Itoa(keep.Sum(sum, last)) + " " + last + "\n"
	if got, rest := keep.Read(s + more); len(got) != 40 || rest != more {
		t.Error(len(got), rest)
	}
}

// P26.2
func TestAddHasMerge(t *testing.T) {
	l := rules()
	s := ""
	for i, r := range l {
		if is, e := keep.Has(s, r); is || e != api.OK {
			t.Error(i, is, e)
		}
		next, is, e := keep.Add(s, r)
		if !is || e != api.OK || next != write(t, l[:i+1]) {
			t.Error(i, next, is, e)
		}
		s = next
		// The same rule with other numbers of Vars is there.
		if i == 0 {
			r = api.Rule{Left: []api.Node{x1, node(api.Add, 0, 0)}, Right: []api.Node{x1, number(2), node(api.Mul, 0, 1)}}
		}
		if has, e := keep.Has(s, r); !has || e != api.OK {
			t.Error(i, has, e)
		}
		if same, is, e := keep.Add(s, r); is || same != s || e != api.OK {
			t.Error(i, same, is, e)
		}
	}
	a, b := write(t, l[:2]), write(t, l[1:])
	if m, e := keep.Merge(a, b); m != s || e != api.OK {
		t.Error(m, e)
	}
	if m, e := keep.Merge(s, s); m != s || e != api.OK {
		t.Error(m, e)
	}
	if m, e := keep.Merge(write(t, many(40)), a); m != "" || e != api.ErrLarge {
		t.Error(m, e)
	}
	torn := s[:len(s)-1]
	_, _, e1 := keep.Add(torn, l[0])
	_, e2 := keep.Has(torn, l[0])
	_, e3 := keep.Merge(torn, s)
	_, e4 := keep.Merge(s, torn)
	_, _, e5 := keep.Audit(torn, 0)
	_, e6 := keep.Proved(torn, 9)
	for i, e := range []api.Errno{e1, e2, e3, e4, e5, e6} {
		if e != api.ErrBroken {
			t.Error(i, e)
		}
	}
	_, _, e1 = keep.Add(torn, api.Rule{})
	_, e2 = keep.Has(torn, api.Rule{})
	if e1 != api.ErrLarge || e2 != api.ErrLarge {
		t.Error(e1, e2)
	}
}

func TestAudit(t *testing.T) {
	s := write(t, rules())
	for w := 1; w <= api.MaxProve; w++ {
		n, is, e := keep.Audit(s, w)
		if n != 2 || !is || e != api.OK {
			t.Error(w, n, is, e)
		}
		p, e := keep.Proved(s, w)
		l := rules()
		if want := write(t, append(l[:2:2], l[3])); p != want || e != api.OK {
			t.Error(w, p, e)
		}
		if n, is, e := keep.Audit(p, w); n != 0 || is || e != api.OK {
			t.Error(w, n, is, e)
		}
	}
	for _, w := range []int{0, 5} {
		_, _, e1 := keep.Audit(s, w)
		_, e2 := keep.Proved(s, w)
		if e1 != api.ErrArg || e2 != api.ErrArg {
			t.Error(w, e1, e2)
		}
	}
	wide := api.Rule{Left: []api.Node{x0, {Op: api.Const, Width: 9}, {Op: api.Const, Width: 1}, node(api.Select, 2, 0, 0)}, Right: []api.Node{x0}}
	if _, _, e := prove.UpTo(wide, 1); rule.Validate(wide) != api.OK || e != api.ErrLarge {
		t.Fatal(e)
	}
	large := write(t, []api.Rule{rules()[0], wide})
	_, is, e1 := keep.Audit(large, 2)
	p, e2 := keep.Proved(large, 2)
	if is || e1 != api.ErrLarge || p != "" || e2 != api.ErrLarge {
		t.Error(is, e1, p, e2)
	}
}
