package prove

import (
	"cmp"
	"maps"
	"math/bits"
	"slices"
	"strconv"

	"backstay/api"
	"backstay/pool"
	"backstay/rule"
)

// The limits of polynomials.
const (
	highest      = 1 << 40
	mostProducts = 200
	mostShift    = 8
)

// powers are the exponents of the Vars and the Holes in a product.
type powers [2 + api.MaxHoles]int

// polynomial has a coefficient, not 0, for each product.
type polynomial map[powers]int

// wide is a number of 128 bits: coefficients may cancel out that are above 64 bits before.
type wide struct {
	high, low uint64
}

func product(a, b int) wide {
	high, low := bits.Mul64(uint64(max(a, -a)), uint64(max(b, -b)))
	if (a < 0) == (b < 0) {
		return wide{high, low}
	}
	low, borrow := bits.Sub64(0, low, 0)
	high, _ = bits.Sub64(0, high, borrow)
	return wide{high, low}
}

func (x wide) plus(y wide) wide {
	low, carry := bits.Add64(x.low, y.low, 0)
	high, _ := bits.Add64(x.high, y.high, carry)
	return wide{high, low}
}

// small returns a number, and whether it is one from -highest to highest.
func (x wide) small() (int, bool) {
	n := int(x.low)
	sign := uint64(0)
	if n < 0 {
		sign = 1<<64 - 1
	}
	return n, x.high == sign && n >= -highest && n <= highest
}

// sum adds a polynomial to another one, sign (1 or -1) times.
func sum(p polynomial, sign int, q polynomial) (polynomial, bool) {
	result := maps.Clone(p)
	for k, n := range q {
		result[k] += sign * n
	}
	return tidy(result)
}

// tidy leaves out coefficients that are 0, and tells whether what is left is in the limits.
func tidy(p polynomial) (polynomial, bool) {
	maps.DeleteFunc(p, func(_ powers, n int) bool { return n == 0 })
	for _, n := range p {
		if n < -highest || n > highest {
			return nil, false
		}
	}
	return p, len(p) <= mostProducts
}

func times(p, q polynomial) (polynomial, bool) {
	sums := map[powers]wide{}
	for a, n := range p {
		for b, m := range q {
			var k powers
			for i := range k {
				k[i] = a[i] + b[i]
			}
			sums[k] = sums[k].plus(product(n, m))
		}
	}
	result := polynomial{}
	for k, x := range sums {
		n, is := x.small()
		if !is {
			return nil, false
		}
		result[k] = n
	}
	return tidy(result)
}

func number(n int) polynomial {
	p, _ := tidy(polynomial{{}: n})
	return p
}

func unknown(i int) polynomial {
	var k powers
	k[i] = 1
	return polynomial{k: 1}
}

func isMinusOne(x api.Node) bool {
	return x.Op == api.Const && x.Imm == 1<<32-1
}

// combine is the polynomial of a node, where those of its Args are known.
func combine(p []api.Node, x api.Node, known []polynomial) (polynomial, bool) {
	if x.Width != 0 || x.Flags != 0 {
		return nil, false
	}
	switch x.Op {
	case api.Const:
		return number(int(int32(x.Imm))), true
	case api.Var:
		return unknown(int(x.Imm)), true
	case api.Hole:
		return unknown(2 + int(x.Imm)), true
	}
	if len(x.Args) != 2 {
		return nil, false
	}
	a, b := known[x.Args[0]], known[x.Args[1]]
	first, second := p[x.Args[0]], p[x.Args[1]]
	switch {
	case x.Op == api.Add:
		return sum(a, 1, b)
	case x.Op == api.Sub:
		return sum(a, -1, b)
	case x.Op == api.Mul:
		return times(a, b)
	case x.Op == api.Xor && isMinusOne(second):
		return sum(number(-1), -1, a)
	case x.Op == api.Xor && isMinusOne(first):
		return sum(number(-1), -1, b)
	case x.Op == api.Shl && second.Op == api.Const && second.Imm <= mostShift:
		return times(a, number(1<<second.Imm))
	}
	return nil, false
}

// normal is Normal of a pattern without errors.
func normal(p []api.Node) (string, bool) {
	shared := pool.Share(p, len(p)-1)
	var known []polynomial
	for _, x := range shared {
		q, is := combine(shared, x, known)
		if !is {
			return "", false
		}
		known = append(known, q)
	}
	return write(known[len(known)-1]), true
}

func write(p polynomial) string {
	keys := slices.SortedFunc(maps.Keys(p), func(a, b powers) int {
		for i := range a {
			if c := cmp.Compare(a[i], b[i]); c != 0 {
				return c
			}
		}
		return 0
	})
	s := ""
	for _, k := range keys {
		s += strconv.Itoa(p[k])
		for _, n := range k {
			s += "." + strconv.Itoa(n)
		}
		s += " "
	}
	return s
}

// Normal returns a text that polynomials have in common if they are equal.
func Normal(p []api.Node) (string, bool, api.Errno) {
	if e := rule.Validate(api.Rule{Left: p, Right: p}); e != api.OK && e != api.ErrRule {
		return "", false, e
	}
	s, is := normal(p)
	return s, is, api.OK
}

func shifts(p []api.Node) bool {
	return slices.ContainsFunc(pool.Share(p, len(p)-1), func(x api.Node) bool { return x.Op == api.Shl })
}

// Algebra reports whether both sides of a rule are equal polynomials, without shifts.
func Algebra(r api.Rule) (bool, api.Errno) {
	if e := rule.Validate(r); e != api.OK {
		return false, e
	}
	if shifts(r.Left) || shifts(r.Right) {
		return false, api.OK
	}
	left, is := normal(r.Left)
	right, other := normal(r.Right)
	return is && other && left == right, api.OK
}
