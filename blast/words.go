package blast

import (
	"slices"

	"backstay/api"
)

const mostBits = api.MaxBits

// word is the literals of the bits of a number, the lowest one first.
type word []int

// blaster makes the gates of a term.
type blaster struct {
	builder
	vars  [][]int
	words []word // of the nodes
}

func newBlaster(widths []int) *blaster {
	b := &blaster{builder: builder{known: map[gate]int{}}}
	for _, w := range widths {
		var l []int
		for range w {
			v := b.fresh()
			l = append(l, v)
		}
		b.vars = append(b.vars, l)
	}
	return b
}

// finish gives the root variables one after another, and returns the first one.
func (b *blaster) finish() int {
	root := b.words[len(b.words)-1]
	first := b.n + 1
	for _, l := range root {
		v := b.fresh()
		switch l {
		case top:
			b.clauses = append(b.clauses, []int{v})
		case -top:
			b.clauses = append(b.clauses, []int{-v})
		default:
			b.clauses = append(b.clauses, []int{-v, l}, []int{v, -l})
		}
	}
	return first
}

// node makes the word of a node.
func (b *blaster) node(x api.Node) {
	var args [3]word
	for i, a := range x.Args {
		args[i] = b.words[a]
	}
	var w word
	switch x.Op {
	case api.Const:
		w = constant(x.Width, x.Imm)
	case api.Var:
		w = slices.Clone(b.vars[x.Imm])
	case api.Cmp:
		w = word{b.compare(int(x.Imm), args[0], args[1])}
	case api.Select:
		w = b.choose(args[0][0], args[1], args[2])
	case api.ZExt, api.SExt, api.Trunc:
		w = extend(x.Op, x.Width, args[0])
	default:
		w = b.arithmetic(x.Op, args[0], args[1])
	}
	b.words = append(b.words, w)
}

func constant(w int, n uint32) word {
	l := make(word, w)
	for i := range l {
		l[i] = -top
		if n>>i&1 == 1 {
			l[i] = top
		}
	}
	return l
}

func isConstant(x word) bool {
	return !slices.ContainsFunc(x, func(l int) bool { return l != top && l != -top })
}

func extend(op, w int, x word) word {
	fill := -top
	if op == api.SExt {
		fill = x[len(x)-1]
	}
	l := slices.Clone(x)
	for len(l) < w {
		l = append(l, fill)
	}
	return l[:w]
}

func not(x word) word {
	l := slices.Clone(x)
	for i := range l {
		l[i] = -l[i]
	}
	return l
}

// each makes a word bit by bit.
func each(x, y word, gate func(a, b int) int) word {
	l := make(word, len(x))
	for i := range x {
		l[i] = gate(x[i], y[i])
	}
	return l
}

func (b *blaster) choose(c int, x, y word) word {
	return each(x, y, func(k, l int) int { return b.mux(c, k, l) })
}

// add returns the sum of two words and a bit, and what is carried out of it.
func (b *blaster) add(x, y word, carry int) (word, int) {
	l := make(word, len(x))
	for i := range x {
		l[i] = b.xor3(x[i], y[i], carry)
		carry = b.maj(x[i], y[i], carry)
	}
	return l, carry
}

func (b *blaster) negate(x word) word {
	l, _ := b.add(constant(len(x), 0), not(x), top)
	return l
}

// below tells whether x is below y, as unsigned words.
func (b *blaster) below(x, y word) int {
	carry := top
	for i := range x {
		carry = b.maj(x[i], -y[i], carry)
	}
	return -carry
}

// flip turns the sign, so that the order of signed values is that of words.
func flip(x word) word {
	l := slices.Clone(x)
	l[len(l)-1] = -l[len(l)-1]
	return l
}

func (b *blaster) equal(x, y word) int {
	all := top
	for i := range x {
		same := -b.xor(x[i], y[i])
		all = b.and(all, same)
	}
	return all
}

func (b *blaster) compare(pred int, x, y word) int {
	if pred >= api.Slt {
		x, y, pred = flip(x), flip(y), pred-api.Slt+api.Ult
	}
	switch pred {
	case api.Eq:
		return b.equal(x, y)
	case api.Ne:
		return -b.equal(x, y)
	case api.Ult:
		return b.below(x, y)
	case api.Ule:
		return -b.below(y, x)
	case api.Ugt:
		return b.below(y, x)
	}
	return -b.below(x, y)
}

func (b *blaster) arithmetic(op int, x, y word) word {
	switch op {
	case api.Add:
		l, _ := b.add(x, y, -top)
		return l
	case api.Sub:
		l, _ := b.add(x, not(y), top)
		return l
	case api.Mul:
		return b.multiply(x, y)
	case api.And:
		return each(x, y, b.and)
	case api.Or:
		return each(x, y, b.or)
	case api.Xor:
		return each(x, y, b.xor)
	case api.Shl, api.LShr, api.AShr:
		return b.shift(op, x, y)
	case api.SDiv, api.SRem:
		return b.divideSigned(op, x, y)
	}
	quotient, rest := b.divide(x, y)
	if op == api.UDiv {
		return quotient
	}
	return rest
}

// multiply adds x shifted by i for each bit i of y. Which one of both is x does not depend on their order, so that a product turned round is the same.
func (b *blaster) multiply(x, y word) word {
	if isConstant(x) || !isConstant(y) && slices.Compare(x, y) > 0 {
		x, y = y, x
	}
	sum := constant(len(x), 0)
	for i, bit := range y {
		row := constant(len(x), 0)
		for k := i; k < len(x); k++ {
			row[k] = b.and(x[k-i], bit)
		}
		sum, _ = b.add(sum, row, -top)
	}
	return sum
}

func shifted(op int, x word, by int) word {
	l := make(word, len(x))
	for i := range l {
		from := i + by
		l[i] = -top
		if op == api.Shl {
			from = i - by
		}
		if op == api.AShr {
			from = min(from, len(x)-1)
		}
		if from >= 0 && from < len(x) {
			l[i] = x[from]
		}
	}
	return l
}

func (b *blaster) shift(op int, x, y word) word {
	gone, all := -top, shifted(op, x, len(x))
	for k, bit := range y {
		if 1<<k >= len(x) {
			gone = b.or(gone, bit)
			continue
		}
		x = b.choose(bit, shifted(op, x, 1<<k), x)
	}
	return b.choose(gone, all, x)
}

// divide divides as on paper. By 0 all bits of the quotient are 1, and the rest is x: as bits.Total wants it.
func (b *blaster) divide(x, y word) (word, word) {
	n := len(x)
	quotient, rest := make(word, n), constant(n, 0)
	wide := append(slices.Clone(y), -top)
	for i := n - 1; i >= 0; i-- {
		next := append(word{x[i]}, rest...)
		less, fits := b.add(next, not(wide), top)
		quotient[i] = fits
		rest = b.choose(fits, less, next)[:n]
	}
	return quotient, rest
}

func (b *blaster) absolute(x word) word {
	return b.choose(x[len(x)-1], b.negate(x), x)
}

func (b *blaster) divideSigned(op int, x, y word) word {
	quotient, rest := b.divide(b.absolute(x), b.absolute(y))
	sign := x[len(x)-1]
	if op == api.SRem {
		return b.choose(sign, b.negate(rest), rest)
	}
	sign = b.xor(sign, y[len(y)-1])
	return b.choose(sign, b.negate(quotient), quotient)
}
