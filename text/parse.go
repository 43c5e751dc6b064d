package text

import (
	"strconv"
	"strings"

	"backstay/api"
	"backstay/ir"
)

// words are the words of a line that are left.
type words struct {
	left []string
}

// next takes the next word; it is empty if there is none.
func (w *words) next() string {
	if len(w.left) == 0 {
		return ""
	}
	word := w.left[0]
	w.left = w.left[1:]
	return word
}

// peek tells whether the next word begins with something.
func (w *words) peek(start string) bool {
	return len(w.left) > 0 && strings.HasPrefix(w.left[0], start)
}

// reader reads one line. It does not ask whether each word is written as it should be: the function is printed afterwards.
type reader struct {
	words
	wrong bool
}

func (r *reader) number(start string) int {
	word := r.next()
	n, err := strconv.Atoi(strings.TrimPrefix(word, start))
	if err != nil {
		r.wrong = true
	}
	return n
}

// numbers takes numbers that begin with something, as long as there are such.
func (r *reader) numbers(start string) []int {
	var l []int
	for !r.wrong && r.peek(start) && !r.peek(":") && (start != "" || !r.peek("@")) {
		l = append(l, r.number(start))
	}
	return l
}

func (r *reader) word(want string) {
	if r.next() != want {
		r.wrong = true
	}
}

func (r *reader) header() api.Func {
	var f api.Func
	r.word("func")
	f.Params = r.numbers("")
	r.word(":")
	f.Ret = r.number("")
	r.word(":")
	f.Slots = r.numbers("")
	return f
}

func (r *reader) inst() api.Inst {
	var x api.Inst
	valued := len(r.left) > 1 && r.left[1] == "="
	if valued {
		r.next()
		r.next()
	}
	name, flags, has := strings.Cut(r.next(), ".")
	op, e := Op(name)
	if e != api.OK {
		r.wrong = true
	}
	x.Op = op
	if has {
		n, err := strconv.Atoi(flags)
		r.wrong = r.wrong || err != nil
		x.Flags = n
	}
	if valued {
		x.Width = r.number("")
	}
	if hasImm(op) {
		n, err := strconv.ParseUint(strings.TrimPrefix(r.next(), "#"), 10, 32)
		r.wrong = r.wrong || err != nil
		x.Imm = uint32(n)
	}
	x.Args = r.numbers("")
	x.To = r.numbers("@")
	return x
}

// Parse returns the function whose text is s.
func Parse(s string) (api.Func, api.Errno) {
	var f api.Func
	wrong := 0
lines:
	for n, text := range strings.Split(s, "\n") {
		r := reader{words: words{strings.Split(text, " ")}}
		switch {
		case text == "":
			continue lines
		case n == 0:
			f = r.header()
		case strings.HasSuffix(text, ":"):
			f.Blocks = append(f.Blocks, nil)
			continue lines
		default:
			x := r.inst()
			if len(f.Blocks) == 0 || r.wrong || len(r.left) > 0 {
				wrong++
				continue lines
			}
			last := len(f.Blocks) - 1
			f.Blocks[last] = append(f.Blocks[last], x)
		}
		if r.wrong || len(r.left) > 0 {
			wrong++
		}
	}
	if wrong > 0 || ir.Validate(f) != api.OK || textOf(f) != s {
		return api.Func{}, api.ErrSyntax
	}
	return f, api.OK
}
