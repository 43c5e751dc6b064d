// Package bits is layer 1: see shared/doc/01-bits.md.
package bits

import "backstay/api"

// masks holds the greatest word of each width; the place 0 is no width.
var masks = [api.MaxWidth + 1]uint32{
	0,
	0x1, 0x3, 0x7, 0xf,
	0x1f, 0x3f, 0x7f, 0xff,
	0x1ff, 0x3ff, 0x7ff, 0xfff,
	0x1fff, 0x3fff, 0x7fff, 0xffff,
	0x1ffff, 0x3ffff, 0x7ffff, 0xfffff,
	0x1fffff, 0x3fffff, 0x7fffff, 0xffffff,
	0x1ffffff, 0x3ffffff, 0x7ffffff, 0xfffffff,
	0x1fffffff, 0x3fffffff, 0x7fffffff, 0xffffffff,
}

func isWidth(n int) bool {
	return n >= 1 && n <= api.MaxWidth
}

func areWords(n int, a, b uint32) bool {
	return isWidth(n) && a <= masks[n] && b <= masks[n]
}

func signed(n int, x uint32) int {
	if x > masks[n]>>1 {
		return int(x) - int(masks[n]) - 1
	}
	return int(x)
}

func wrap(n int, x int) uint32 {
	return uint32(x) & masks[n]
}

// Mask returns the greatest word of n bits.
func Mask(n int) (uint32, api.Errno) {
	if !isWidth(n) {
		return 0, api.ErrArg
	}
	return masks[n], api.OK
}

// Signed returns the signed value of a word.
func Signed(n int, x uint32) (int, api.Errno) {
	if !areWords(n, x, 0) {
		return 0, api.ErrArg
	}
	return signed(n, x), api.OK
}

// Of returns x modulo 2^n.
func Of(n int, x int) (uint32, api.Errno) {
	if !isWidth(n) {
		return 0, api.ErrArg
	}
	return wrap(n, x), api.OK
}

// Do returns the word that an operation makes, and whether there is one.
func Do(op, n int, a, b uint32) (uint32, bool, api.Errno) {
	if !isArithmetic(op) || !areWords(n, a, b) {
		return 0, false, api.ErrArg
	}
	o := operations()[op-api.Add]
	if !o.has(n, a, b) {
		return 0, false, api.OK
	}
	return o.do(n, a, b), true, api.OK
}

// Total returns the word of Do, or a fixed one where there is none.
func Total(op, n int, a, b uint32) (uint32, api.Errno) {
	if !isArithmetic(op) || !areWords(n, a, b) {
		return 0, api.ErrArg
	}
	o := operations()[op-api.Add]
	if !o.has(n, a, b) {
		return o.lacks(n, a, b), api.OK
	}
	return o.do(n, a, b), api.OK
}

// Breaks reports whether an operation breaks its flags.
func Breaks(op, flags, n int, a, b uint32) (bool, api.Errno) {
	if !isArithmetic(op) || flags < 0 || flags > 7 || !areWords(n, a, b) {
		return false, api.ErrArg
	}
	o := operations()[op-api.Add]
	if !o.has(n, a, b) {
		return false, api.OK
	}
	return o.breaks(flags, n, a, b), api.OK
}

// Extend widens or narrows a word.
func Extend(op, from, to int, x uint32) (uint32, api.Errno) {
	if !isWidth(to) || !areWords(from, x, 0) {
		return 0, api.ErrArg
	}
	switch {
	case op == api.ZExt && to > from:
		return x, api.OK
	case op == api.SExt && to > from:
		return wrap(to, signed(from, x)), api.OK
	case op == api.Trunc && to < from:
		return x & masks[to], api.OK
	}
	return 0, api.ErrArg
}

// Lanes adds or subtracts in each lane of a word.
func Lanes(op, n, lane int, a, b uint32) (uint32, api.Errno) {
	if op != api.PAdd && op != api.PSub || !areWords(n, a, b) {
		return 0, api.ErrArg
	}
	if lane < 1 || lane >= n || n%lane != 0 {
		return 0, api.ErrArg
	}
	sum := uint32(0)
	for at := 0; at < n; at += lane {
		x := a >> at & masks[lane]
		y := b >> at & masks[lane]
		if op == api.PAdd {
			x += y
		} else {
			x -= y
		}
		sum |= x & masks[lane] << at
	}
	return sum, api.OK
}

// Trailing returns how many zeros a word ends with.
func Trailing(n int, x uint32) (int, api.Errno) {
	if !areWords(n, x, 0) {
		return 0, api.ErrArg
	}
	zeros := 0
	for zeros < n && x>>zeros&1 == 0 {
		zeros++
	}
	return zeros, api.OK
}

// Ones returns how many bits of a word are 1.
func Ones(n int, x uint32) (int, api.Errno) {
	if !areWords(n, x, 0) {
		return 0, api.ErrArg
	}
	ones := 0
	for ; x != 0; x &= x - 1 {
		ones++
	}
	return ones, api.OK
}
