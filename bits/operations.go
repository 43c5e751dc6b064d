package bits

import "backstay/api"

// operation is what the layer knows of one arithmetic operation. has tells whether there is a word, do makes it, lacks tells the word of Total where there is none, and breaks whether flags are broken where there is one.
type operation struct {
	has    func(n int, a, b uint32) bool
	do     func(n int, a, b uint32) uint32
	lacks  func(n int, a, b uint32) uint32
	breaks func(flags, n int, a, b uint32) bool
}

func isArithmetic(op int) bool {
	return op >= api.Add && op <= api.AShr
}

// operations has one operation for each of Add to AShr, in their order.
func operations() [13]operation {
	return [13]operation{
		{always, add, zero, addBreaks},
		{always, sub, zero, subBreaks},
		{always, mul, zero, mulBreaks},
		{divides, udiv, greatest, udivBreaks},
		{divides, urem, first, never},
		{dividesSigned, sdiv, sdivLacks, sdivBreaks},
		{dividesSigned, srem, sremLacks, never},
		{always, and, zero, never},
		{always, or, zero, never},
		{always, xor, zero, never},
		{shifts, shl, zero, shlBreaks},
		{shifts, lshr, zero, shiftBreaks},
		{shifts, ashr, ashrLacks, shiftBreaks},
	}
}

func always(n int, a, b uint32) bool { return true }

func divides(n int, a, b uint32) bool { return b != 0 }

func dividesSigned(n int, a, b uint32) bool {
	return b != 0 && !(b == masks[n] && a == masks[n]>>1+1)
}

func shifts(n int, a, b uint32) bool { return b < uint32(n) }

func add(n int, a, b uint32) uint32 { return (a + b) & masks[n] }

func sub(n int, a, b uint32) uint32 { return (a - b) & masks[n] }

func mul(n int, a, b uint32) uint32 { return a * b & masks[n] }

func udiv(n int, a, b uint32) uint32 { return a / b }

func urem(n int, a, b uint32) uint32 { return a % b }

func sdiv(n int, a, b uint32) uint32 { return wrap(n, signed(n, a)/signed(n, b)) }

func srem(n int, a, b uint32) uint32 { return wrap(n, signed(n, a)%signed(n, b)) }

func and(n int, a, b uint32) uint32 { return a & b }

func or(n int, a, b uint32) uint32 { return a | b }

func xor(n int, a, b uint32) uint32 { return a ^ b }

func shl(n int, a, b uint32) uint32 { return a << b & masks[n] }

func lshr(n int, a, b uint32) uint32 { return a >> b }

func ashr(n int, a, b uint32) uint32 { return wrap(n, signed(n, a)>>b) }

func zero(n int, a, b uint32) uint32 { return 0 }

func first(n int, a, b uint32) uint32 { return a }

func greatest(n int, a, b uint32) uint32 { return masks[n] }

func sdivLacks(n int, a, b uint32) uint32 {
	if b != 0 {
		return a
	}
	if signed(n, a) < 0 {
		return 1
	}
	return masks[n]
}

func sremLacks(n int, a, b uint32) uint32 {
	if b != 0 {
		return 0
	}
	return a
}

func ashrLacks(n int, a, b uint32) uint32 {
	if signed(n, a) < 0 {
		return masks[n]
	}
	return 0
}

func never(flags, n int, a, b uint32) bool { return false }

func leavesWords(n int, x int) bool {
	return x < 0 || x > int(masks[n])
}

func leavesSigned(n int, x int) bool {
	half := int(masks[n] >> 1)
	return x > half || x < -half-1
}

func addBreaks(flags, n int, a, b uint32) bool {
	return flags&api.NoUnsigned != 0 && leavesWords(n, int(a)+int(b)) ||
		flags&api.NoSigned != 0 && leavesSigned(n, signed(n, a)+signed(n, b))
}

func subBreaks(flags, n int, a, b uint32) bool {
	return flags&api.NoUnsigned != 0 && a < b ||
		flags&api.NoSigned != 0 && leavesSigned(n, signed(n, a)-signed(n, b))
}

func mulBreaks(flags, n int, a, b uint32) bool {
	// The unsigned product may need 64 bits, one more than an int has.
	return flags&api.NoUnsigned != 0 && uint64(a)*uint64(b) > uint64(masks[n]) ||
		flags&api.NoSigned != 0 && leavesSigned(n, signed(n, a)*signed(n, b))
}

func shlBreaks(flags, n int, a, b uint32) bool {
	return flags&api.NoUnsigned != 0 && leavesWords(n, int(a)<<b) ||
		flags&api.NoSigned != 0 && leavesSigned(n, signed(n, a)<<b)
}

func udivBreaks(flags, n int, a, b uint32) bool {
	return flags&api.Exact != 0 && a%b != 0
}

func sdivBreaks(flags, n int, a, b uint32) bool {
	return flags&api.Exact != 0 && signed(n, a)%signed(n, b) != 0
}

func shiftBreaks(flags, n int, a, b uint32) bool {
	return flags&api.Exact != 0 && a>>b<<b != a
}
