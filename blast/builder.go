package blast

import "slices"

// top is the literal that is always true; it is not a number of a variable. Its negation is always false.
const top = 1 << 30

// The kinds of gates.
const (
	and = iota
	xor
	mux
	xor3
	maj
)

// gate is an operation over literals.
type gate struct {
	kind int
	in   [3]int
}

// builder makes gates, equal ones once.
type builder struct {
	n       int
	clauses [][]int
	known   map[gate]int
}

func (b *builder) fresh() int {
	b.n++
	return b.n
}

func (b *builder) isLarge() bool {
	return b.n > mostBits || len(b.clauses) > mostClauses
}

// make returns the literal of a gate; clauses tells those of its variable.
func (b *builder) make(g gate, clauses func(v int) [][]int) int {
	if v, is := b.known[g]; is {
		return v
	}
	v := b.fresh()
	b.known[g] = v
	b.clauses = append(b.clauses, clauses(v)...)
	return v
}

func (b *builder) and(x, y int) int {
	switch {
	case x == -top || y == -top || x == -y:
		return -top
	case x == top || x == y:
		return y
	case y == top:
		return x
	}
	x, y = min(x, y), max(x, y)
	return b.make(gate{and, [3]int{x, y}}, func(v int) [][]int {
		return [][]int{{-x, -y, v}, {x, -v}, {y, -v}}
	})
}

func (b *builder) or(x, y int) int {
	return -b.and(-x, -y)
}

func positive(x int) (int, int) {
	if x < 0 {
		return -x, -1
	}
	return x, 1
}

func (b *builder) xor(x, y int) int {
	x, sign := positive(x)
	y, other := positive(y)
	sign *= other
	x, y = min(x, y), max(x, y)
	switch {
	case x == y:
		return -sign * top
	case y == top:
		return -sign * x
	}
	return sign * b.make(gate{xor, [3]int{x, y}}, func(v int) [][]int {
		return [][]int{{-x, -y, -v}, {x, y, -v}, {-x, y, v}, {x, -y, v}}
	})
}

// mux is x if c is true, and otherwise y.
func (b *builder) mux(c, x, y int) int {
	if c < 0 {
		c, x, y = -c, y, x
	}
	switch {
	case c == top || x == y:
		return x
	case x == top || x == c:
		return b.or(c, y)
	case x == -top || x == -c:
		return b.and(-c, y)
	case y == top || y == -c:
		return b.or(-c, x)
	case y == -top || y == c:
		return b.and(c, x)
	case x == -y:
		return -b.xor(c, x)
	}
	x, sign := positive(x)
	y *= sign
	return sign * b.make(gate{mux, [3]int{c, x, y}}, func(v int) [][]int {
		return [][]int{{-c, -x, v}, {-c, x, -v}, {c, -y, v}, {c, y, -v}, {-x, -y, v}, {x, y, -v}}
	})
}

// xor3 is the lowest bit of a sum of three.
func (b *builder) xor3(x, y, z int) int {
	x, sign := positive(x)
	y, other := positive(y)
	z, third := positive(z)
	sign *= other * third
	l := []int{x, y, z}
	slices.Sort(l)
	x, y, z = l[0], l[1], l[2]
	switch {
	case z == top:
		return -sign * b.xor(x, y)
	case x == y:
		return sign * z
	case y == z:
		return sign * x
	}
	return sign * b.make(gate{xor3, [3]int{x, y, z}}, func(v int) [][]int {
		return [][]int{
			{x, y, z, -v}, {x, -y, -z, -v}, {-x, y, -z, -v}, {-x, -y, z, -v},
			{-x, -y, -z, v}, {-x, y, z, v}, {x, -y, z, v}, {x, y, -z, v},
		}
	})
}

// maj is the higher bit of a sum of three.
func (b *builder) maj(x, y, z int) int {
	l := []int{x, y, z}
	slices.Sort(l)
	x, y, z = l[0], l[1], l[2]
	switch {
	case x == -top:
		return b.and(y, z)
	case z == top:
		return b.or(x, y)
	case x == y || y == z:
		return y
	case x == -y:
		return z
	case x == -z:
		return y
	case y == -z:
		return x
	}
	if y < 0 {
		return -b.maj(-x, -y, -z)
	}
	return b.make(gate{maj, [3]int{x, y, z}}, func(v int) [][]int {
		return [][]int{{-x, -y, v}, {-x, -z, v}, {-y, -z, v}, {x, y, -v}, {x, z, -v}, {y, z, -v}}
	})
}
