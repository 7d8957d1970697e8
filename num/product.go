package num

// karatsuba is the number of words from which on factors are halved: three products of halves take fewer steps than one of wholes.
const karatsuba = 40

func (x natural) mul(y natural) natural {
	if len(x) < len(y) {
		x, y = y, x
	}
	switch {
	case len(y) == 0:
		return nil
	case y.isOne():
		return x
	case len(y) < karatsuba:
		return x.mulPlain(y)
	case 2*len(y) <= len(x)+1:
		return x.mulShort(y)
	}
	return x.mulHalves(y)
}

// mulPlain multiplies word by word.
func (x natural) mulPlain(y natural) natural {
	z := make(natural, len(x)+len(y))
	for i, w := range y {
		z[i+len(x)] = increaseBy(z[i:i+len(x)], x, w)
	}
	return z.trim()
}

// increaseBy adds x times w to z, which is as long as x, and returns the word that z has no room for.
func increaseBy(z, x natural, w uint32) uint32 {
	var carry uint64
	for i, v := range x {
		carry += uint64(v)*uint64(w) + uint64(z[i])
		z[i] = uint32(carry)
		carry >>= wordBits
	}
	return uint32(carry)
}

// mulShort multiplies by a y that is at most half as long as x.
func (x natural) mulShort(y natural) natural {
	half := (len(x) + 1) / 2
	z := make(natural, len(x)+len(y)+1)
	copy(z, x[:half].trim().mul(y))
	increase(z[half:], x[half:].mul(y))
	return z.trim()
}

// mulHalves multiplies by a y that is more than half as long as x.
func (x natural) mulHalves(y natural) natural {
	half := (len(x) + 1) / 2
	x0, x1 := x[:half].trim(), x[half:]
	y0, y1 := y[:half].trim(), y[half:]
	low, high := x0.mul(y0), x1.mul(y1)
	middle := x0.add(x1).mul(y0.add(y1)).sub(low).sub(high)
	z := make(natural, len(x)+len(y)+1)
	copy(z, low)
	increase(z[half:], middle)
	increase(z[2*half:], high)
	return z.trim()
}

// mulWord returns x w + c.
func (x natural) mulWord(w, c uint32) natural {
	z := make(natural, len(x)+1)
	carry := uint64(c)
	for i, v := range x {
		carry += uint64(v) * uint64(w)
		z[i] = uint32(carry)
		carry >>= wordBits
	}
	z[len(x)] = uint32(carry)
	return z.trim()
}
