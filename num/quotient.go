package num

import "math/bits"

// div returns the quotient of x and y, which is not 0, rounded down, and the rest.
func (x natural) div(y natural) (natural, natural) {
	if y.isOne() {
		return x, nil
	}
	if x.compare(y) < 0 {
		return nil, x
	}
	if a, ok := x.small(); ok {
		b, _ := y.small()
		return fromUint(a / b), fromUint(a % b)
	}
	if len(y) == 1 {
		q := make(natural, len(x))
		rest := divWord(q, x, y[0])
		return q.trim(), fromUint(uint64(rest))
	}
	return x.divLong(y)
}

// exact returns x/y for a y that divides x.
func (x natural) exact(y natural) natural {
	if y.isPower() {
		return x.down(y.twos())
	}
	q, _ := x.div(y)
	return q
}

// divWord writes the quotient of x and w, rounded down, to q, which is as long as x and may be x, and returns the rest.
func divWord(q, x natural, w uint32) uint32 {
	var rest uint32
	for i := len(x) - 1; i >= 0; i-- {
		q[i], rest = bits.Div32(rest, x[i], w)
	}
	return rest
}

// divLong divides by a y of two words or more that is not above x. Both are shifted such that the highest bit of y's highest word is set: then two words of y determine each word of the quotient up to 1.
func (x natural) divLong(y natural) (natural, natural) {
	shift := bits.LeadingZeros32(y[len(y)-1])
	y = y.up(shift)
	rest := make(natural, len(x)+1)
	shiftInto(rest, x, shift)
	q := make(natural, len(x)-len(y)+1)
	for i := len(q) - 1; i >= 0; i-- {
		q[i] = divStep(rest[i:i+len(y)+1], y)
	}
	return q.trim(), rest.trim().down(shift)
}

// divStep subtracts from x, which has one word more than y and is less than y times 2^32, y as often as possible, and returns how often.
func divStep(x, y natural) uint32 {
	n := len(y)
	w := guess(x[n], x[n-1], x[n-2], y[n-1], y[n-2])
	if decreaseBy(x, y, w) {
		w--
		var carry uint32
		for i, v := range y {
			x[i], carry = bits.Add32(x[i], v, carry)
		}
		x[n] += carry
	}
	return w
}

// guess returns the quotient of the words x2, x1, x0 and y1, y0, at most 2^32 - 1; the highest bit of y1 is set.
func guess(x2, x1, x0, y1, y0 uint32) uint32 {
	top := uint64(x2)<<wordBits | uint64(x1)
	w, rest := top/uint64(y1), top%uint64(y1)
	for rest>>wordBits == 0 && (w>>wordBits != 0 || w*uint64(y0) > rest<<wordBits|uint64(x0)) {
		w--
		rest += uint64(y1)
	}
	return uint32(w)
}

// decreaseBy subtracts y times w from x, which has one word more than y, modulo 2^32 to the length of x. It reports whether x was less.
func decreaseBy(x, y natural, w uint32) bool {
	var carry uint64
	var borrow uint32
	for i, v := range y {
		carry += uint64(v) * uint64(w)
		x[i], borrow = bits.Sub32(x[i], uint32(carry), borrow)
		carry >>= wordBits
	}
	x[len(y)], borrow = bits.Sub32(x[len(y)], uint32(carry), borrow)
	return borrow != 0
}
