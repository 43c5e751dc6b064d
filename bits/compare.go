package bits

import "backstay/api"

// opposites and mirrors have one predicate for each of Eq to Sge, in their order.
var opposites = [10]int{api.Ne, api.Eq, api.Uge, api.Ugt, api.Ule, api.Ult, api.Sge, api.Sgt, api.Sle, api.Slt}

var mirrors = [10]int{api.Eq, api.Ne, api.Ugt, api.Uge, api.Ult, api.Ule, api.Sgt, api.Sge, api.Slt, api.Sle}

func isPredicate(pred int) bool {
	return pred >= api.Eq && pred <= api.Sge
}

// Compare reports whether a predicate holds of two words.
func Compare(pred, n int, a, b uint32) (bool, api.Errno) {
	if !isPredicate(pred) || !areWords(n, a, b) {
		return false, api.ErrArg
	}
	s, t := signed(n, a), signed(n, b)
	switch pred {
	case api.Eq:
		return a == b, api.OK
	case api.Ne:
		return a != b, api.OK
	case api.Ult:
		return a < b, api.OK
	case api.Ule:
		return a <= b, api.OK
	case api.Ugt:
		return a > b, api.OK
	case api.Uge:
		return a >= b, api.OK
	case api.Slt:
		return s < t, api.OK
	case api.Sle:
		return s <= t, api.OK
	case api.Sgt:
		return s > t, api.OK
	}
	return s >= t, api.OK
}

// Opposite returns the predicate that holds just if the given one does not.
func Opposite(pred int) (int, api.Errno) {
	if !isPredicate(pred) {
		return 0, api.ErrArg
	}
	return opposites[pred], api.OK
}

// Mirror returns the predicate that holds of b and a just if the given one holds of a and b.
func Mirror(pred int) (int, api.Errno) {
	if !isPredicate(pred) {
		return 0, api.ErrArg
	}
	return mirrors[pred], api.OK
}
