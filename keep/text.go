package keep

import (
	"strconv"
	"strings"

	"backstay/api"
	"backstay/rule"
)

func number(n uint32) string {
	return strconv.FormatUint(uint64(n), 10)
}

func writeNode(x api.Node) string {
	s := strconv.Itoa(x.Op) + "." + strconv.Itoa(x.Width) + "." + strconv.Itoa(x.Flags) + "." + number(x.Imm)
	for _, a := range x.Args {
		s += "," + strconv.Itoa(a)
	}
	return s
}

// write is for valid rules.
func write(r api.Rule) string {
	var words []string
	for _, x := range r.Left {
		words = append(words, writeNode(x))
	}
	words = append(words, "=>")
	for _, x := range r.Right {
		words = append(words, writeNode(x))
	}
	words = append(words, "if")
	for _, c := range r.Pre {
		words = append(words, strconv.Itoa(c.Kind)+"."+strconv.Itoa(c.Hole)+"."+number(c.Imm))
	}
	return strings.Join(words, " ")
}

// Text returns the text of a rule.
func Text(r api.Rule) (string, api.Errno) {
	if e := rule.Validate(r); e != api.OK {
		return "", e
	}
	return write(r), api.OK
}

// split reads numbers that stand between marks. Whether they are written as they should be is asked afterwards.
func split(s, mark string) ([]int, bool) {
	var l []int
	for _, word := range strings.Split(s, mark) {
		n, err := strconv.Atoi(word)
		if err != nil {
			return nil, false
		}
		l = append(l, n)
	}
	return l, true
}

// isWord tells whether a number is one of 32 bits.
func isWord(n int) bool {
	return n >= 0 && n < 1<<32
}

func readNode(s string) (api.Node, bool) {
	head, tail, has := strings.Cut(s, ",")
	l, is := split(head, ".")
	if !is || len(l) != 4 || !isWord(l[3]) {
		return api.Node{}, false
	}
	x := api.Node{Op: l[0], Width: l[1], Flags: l[2], Imm: uint32(l[3])}
	if has {
		x.Args, is = split(tail, ",")
	}
	return x, is
}

func readCond(s string) (api.Cond, bool) {
	l, is := split(s, ".")
	if !is || len(l) != 3 || !isWord(l[2]) {
		return api.Cond{}, false
	}
	return api.Cond{Kind: l[0], Hole: l[1], Imm: uint32(l[2])}, true
}

// readRule reads the words of a rule: part counts the marks between the left side, the right side and the preconditions.
func readRule(words []string) (api.Rule, bool) {
	var r api.Rule
	part := 0
	for _, word := range words {
		is := true
		switch {
		case part == 0 && word == "=>", part == 1 && word == "if":
			part++
		case part == 2:
			var c api.Cond
			c, is = readCond(word)
			r.Pre = append(r.Pre, c)
		default:
			var x api.Node
			x, is = readNode(word)
			if part == 0 {
				r.Left = append(r.Left, x)
			} else {
				r.Right = append(r.Right, x)
			}
		}
		if !is {
			return api.Rule{}, false
		}
	}
	return r, true
}

// Parse returns the rule with a text.
func Parse(s string) (api.Rule, api.Errno) {
	r, is := readRule(strings.Split(s, " "))
	if !is || rule.Validate(r) != api.OK || write(r) != s {
		return api.Rule{}, api.ErrSyntax
	}
	return r, api.OK
}
