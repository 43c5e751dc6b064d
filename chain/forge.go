package chain

import "backstay/api"

// Forge changes a chain; k says what.
func Forge(c api.Chain, k int) (api.Chain, api.Errno) {
	if e := Validate(c); e != api.OK {
		return api.Chain{}, e
	}
	forged := copyOf(c)
	n := uint(k) / 4
	switch uint(k) % 4 {
	case 0:
		forgeByte(forged.Image, n)
	case 1:
		forgeCode(forged.Code, n)
	case 2:
		forgeCode(forged.Allocated, n)
	default:
		i, j := n%uint(len(c.Texts)), n/uint(len(c.Texts))%uint(len(c.Texts))
		forged.Texts[i], forged.Texts[j] = forged.Texts[j], forged.Texts[i]
	}
	if Validate(forged) != api.OK {
		return copyOf(c), api.OK
	}
	return forged, api.OK
}

func forgeByte(image []byte, n uint) {
	if len(image) > 0 {
		size := uint(len(image))
		image[n%size] ^= byte(1 << (n / size % 8))
	}
}

// forgeCode changes a field of an instruction; the result need not be valid.
func forgeCode(p api.Program, n uint) {
	size := uint(0)
	for _, block := range p.Blocks {
		size += uint(len(block))
	}
	at, what := n%size, n/size
	for _, block := range p.Blocks {
		if at >= uint(len(block)) {
			at -= uint(len(block))
			continue
		}
		x := &block[at]
		switch {
		case x.Op >= api.NAdd && x.Op <= api.NSltu && what%2 == 0:
			x.Op++
		case x.Op == api.NHalt:
			x.Op = api.NStop
		case x.Op == api.NJmp || x.Op == api.NBnz:
			x.To = int((uint(x.To) + 1 + what) % uint(len(p.Blocks)))
		case x.Op >= api.NAdd && x.Op <= api.NSeq:
			x.A, x.B = x.B, x.A
		default:
			x.Imm ^= 1 << (what % 32)
		}
		return
	}
}
