package bits

import (
	"testing"

	"backstay/api"
)

// signedBy is the signed value by its definition.
func signedBy(n int, x uint32) int {
	if int(x) >= 1<<(n-1) {
		return int(x) - 1<<n
	}
	return int(x)
}

func modulo(x, m int) int {
	return ((x % m) + m) % m
}

func floor(a, b int) int {
	q := a / b
	if a%b != 0 && (a < 0) != (b < 0) {
		q--
	}
	return q
}

// exact is the result of an operation without a limit; the second one tells whether there is a word.
func exact(op, n int, a, b uint32) (int, bool) {
	x, y, s, t := int(a), int(b), signedBy(n, a), signedBy(n, b)
	low := s == -1<<(n-1) && t == -1
	switch op {
	case api.Add:
		return x + y, true
	case api.Sub:
		return x - y, true
	case api.Mul:
		return x * y, true
	case api.And:
		return int(a & b), true
	case api.Or:
		return int(a | b), true
	case api.Xor:
		return int(a ^ b), true
	}
	switch {
	case op >= api.Shl && y >= n, op < api.Shl && y == 0, (op == api.SDiv || op == api.SRem) && low:
		return 0, false
	}
	switch op {
	case api.UDiv:
		return x / y, true
	case api.URem:
		return x % y, true
	case api.SDiv:
		return s / t, true
	case api.SRem:
		return s % t, true
	case api.Shl:
		return x * (1 << y), true
	case api.LShr:
		return floor(x, 1<<y), true
	}
	return floor(s, 1<<y), true
}

func each(t *testing.T, check func(n int, a, b uint32)) {
	t.Helper()
	for n := 1; n <= 5; n++ {
		for a := uint32(0); a < 1<<n; a++ {
			for b := uint32(0); b < 1<<n; b++ {
				check(n, a, b)
			}
		}
	}
}

// P1.1
func TestWordsAndErrors(t *testing.T) {
	for n := -1; n <= 34; n++ {
		m, e := Mask(n)
		if n < 1 || n > 32 {
			if m != 0 || e != api.ErrArg {
				t.Error(n, m, e)
			}
			continue
		}
		if m != uint32(1<<n-1) || e != api.OK {
			t.Error(n, m, e)
		}
		if n == 32 {
			continue
		}
		if _, e := Signed(n, m+1); e != api.ErrArg {
			t.Error(n, e)
		}
	}
	for x := -70; x < 70; x++ {
		if w, e := Of(5, x); int(w) != modulo(x, 32) || e != api.OK {
			t.Error(x, w, e)
		}
	}
	if w, _ := Of(32, -1<<63); w != 0 {
		t.Error(w)
	}
	each(t, func(n int, a, b uint32) {
		if s, e := Signed(n, a); s != signedBy(n, a) || e != api.OK {
			t.Error(n, a, s, e)
		}
	})
	bad := []api.Errno{}
	keep := func(e api.Errno) { bad = append(bad, e) }
	_, _, e := Do(api.Const, 4, 0, 0)
	keep(e)
	_, _, e = Do(api.Add, 4, 16, 0)
	keep(e)
	_, _, e = Do(api.Add, 4, 0, 16)
	keep(e)
	_, e = Total(api.Cmp, 4, 0, 0)
	keep(e)
	_, e = Breaks(api.Add, -1, 4, 0, 0)
	keep(e)
	_, e = Breaks(api.Add, 8, 4, 0, 0)
	keep(e)
	_, e = Compare(10, 4, 0, 0)
	keep(e)
	_, e = Compare(api.Eq, 4, 0, 16)
	keep(e)
	_, e = Opposite(-1)
	keep(e)
	_, e = Mirror(10)
	keep(e)
	_, e = Extend(api.ZExt, 4, 33, 0)
	keep(e)
	_, e = Extend(api.Trunc, 4, 4, 0)
	keep(e)
	_, e = Extend(api.SExt, 4, 8, 16)
	keep(e)
	_, e = Lanes(api.Add, 8, 4, 0, 0)
	keep(e)
	_, e = Lanes(api.PAdd, 8, 3, 0, 0)
	keep(e)
	_, e = Lanes(api.PAdd, 8, 8, 0, 0)
	keep(e)
	_, e = Trailing(0, 0)
	keep(e)
	_, e = Ones(4, 16)
	keep(e)
	for i, e := range bad {
		if e != api.ErrArg {
			t.Error(i, e)
		}
	}
}

// P1.2
func TestDo(t *testing.T) {
	for op := api.Add; op <= api.AShr; op++ {
		each(t, func(n int, a, b uint32) {
			x, ok := exact(op, n, a, b)
			w, is, e := Do(op, n, a, b)
			if is != ok || int(w) != modulo(x, 1<<n) || e != api.OK {
				t.Error(op, n, a, b, w, is, e)
			}
		})
	}
	if w, ok, _ := Do(api.Mul, 32, 1<<31+1, 3); w != 1<<31+3 || !ok {
		t.Error(w, ok)
	}
	if _, ok, _ := Do(api.SRem, 32, 1<<31, 1<<32-1); ok {
		t.Error("a remainder of the lowest number by -1 has no word")
	}
}

// P1.3
func TestTotal(t *testing.T) {
	for op := api.Add; op <= api.AShr; op++ {
		each(t, func(n int, a, b uint32) {
			x, ok := exact(op, n, a, b)
			below := signedBy(n, a) < 0
			all := 1<<n - 1
			switch {
			case ok:
			case op == api.UDiv, op == api.AShr && below, op == api.SDiv && b == 0 && !below:
				x = all
			case op == api.SDiv && b == 0:
				x = 1
			case op == api.SDiv, op == api.URem, op == api.SRem && b == 0:
				x = int(a)
			}
			if w, e := Total(op, n, a, b); int(w) != modulo(x, 1<<n) || e != api.OK {
				t.Error(op, n, a, b, w, e)
			}
		})
	}
}

// P1.4
func TestBreaks(t *testing.T) {
	for op := api.Add; op <= api.AShr; op++ {
		each(t, func(n int, a, b uint32) {
			x, ok := exact(op, n, a, b)
			s, u := signedBy(n, a), signedBy(n, b)
			wants := [3]bool{}
			var value int
			switch op {
			case api.Add:
				value = s + u
			case api.Sub:
				value = s - u
			case api.Mul:
				value = s * u
			case api.Shl:
				value = s << b
			}
			if ok && (op <= api.Mul || op == api.Shl) {
				wants[0] = x < 0 || x > 1<<n-1
				wants[1] = value < -1<<(n-1) || value >= 1<<(n-1)
			}
			if ok && op == api.UDiv {
				wants[2] = int(a)%int(b) != 0
			}
			if ok && op == api.SDiv {
				wants[2] = s%u != 0
			}
			if ok && op >= api.LShr {
				wants[2] = int(a)%(1<<b) != 0
			}
			for flags := 0; flags < 8; flags++ {
				want := flags&1 != 0 && wants[0] || flags&2 != 0 && wants[1] || flags&4 != 0 && wants[2]
				if is, e := Breaks(op, flags, n, a, b); is != want || e != api.OK {
					t.Error(op, flags, n, a, b, is, e)
				}
			}
		})
	}
	if is, _ := Breaks(api.Mul, api.NoSigned, 32, 1<<31, 1<<31); !is {
		t.Error("2^62 is no word")
	}
	if is, _ := Breaks(api.Shl, api.NoUnsigned, 32, 1<<32-1, 31); !is {
		t.Error("nearly 2^63 is no word")
	}
}

// P1.5
func TestComparisons(t *testing.T) {
	each(t, func(n int, a, b uint32) {
		s, u := signedBy(n, a), signedBy(n, b)
		wants := []bool{a == b, a != b, a < b, a <= b, a > b, a >= b, s < u, s <= u, s > u, s >= u}
		for pred, want := range wants {
			opposite, _ := Opposite(pred)
			mirror, _ := Mirror(pred)
			is, e := Compare(pred, n, a, b)
			not, _ := Compare(opposite, n, a, b)
			turned, _ := Compare(mirror, n, b, a)
			if is != want || not == want || turned != want || e != api.OK {
				t.Error(pred, n, a, b, is, not, turned, e)
			}
			if back, _ := Opposite(opposite); back != pred {
				t.Error(pred, back)
			}
			if back, _ := Mirror(mirror); back != pred {
				t.Error(pred, back)
			}
		}
	})
}

// P1.6
func TestExtendLanesAndCounts(t *testing.T) {
	each(t, func(n int, a, b uint32) {
		for to := n + 1; to <= 32; to += 5 {
			z, _ := Extend(api.ZExt, n, to, a)
			s, _ := Extend(api.SExt, n, to, a)
			if z != a || int(s) != modulo(signedBy(n, a), 1<<to) {
				t.Error(n, to, a, z, s)
			}
			for _, wide := range []uint32{z, s} {
				if x, e := Extend(api.Trunc, to, n, wide); x != a || e != api.OK {
					t.Error(n, to, a, x, e)
				}
			}
		}
		ones, zeros := 0, 0
		for i := 0; i < n; i++ {
			ones += int(a >> i & 1)
		}
		for zeros < n && a>>zeros&1 == 0 {
			zeros++
		}
		o, _ := Ones(n, a)
		z, _ := Trailing(n, a)
		if o != ones || z != zeros {
			t.Error(n, a, o, z)
		}
		if n != 4 {
			return
		}
		sum, _ := Lanes(api.PAdd, 4, 2, a, b)
		difference, _ := Lanes(api.PSub, 4, 2, a, b)
		low, high := (a+b)&3, (a>>2+b>>2)&3
		if sum != high<<2|low {
			t.Error(a, b, sum)
		}
		low, high = (a-b)&3, (a>>2-b>>2)&3
		if difference != high<<2|low {
			t.Error(a, b, difference)
		}
	})
	if n, _ := Ones(32, 1<<32-1); n != 32 {
		t.Error(n)
	}
	if n, _ := Trailing(32, 0); n != 32 {
		t.Error(n)
	}
	if x, _ := Lanes(api.PSub, 32, 1, 0, 1<<32-1); x != 1<<32-1 {
		t.Error(x)
	}
}
