package num

import "math/bits"

// gcd returns the greatest common divisor; that of 0 and y is y.
func (x natural) gcd(y natural) natural {
	switch {
	case len(x) == 0 || y.isOne():
		return y
	case len(y) == 0 || x.isOne():
		return x
	case x.compare(y) == 0:
		return x
	}
	a, b := x.twos(), y.twos()
	return gcdOdd(x.down(a), y.down(b)).up(min(a, b))
}

// gcdOdd returns the greatest common divisor of two odd numbers.
func gcdOdd(x, y natural) natural {
	if x.isOne() || y.isOne() {
		return natural{1}
	}
	if x.compare(y) < 0 {
		x, y = y, x
	}
	if len(x) > 2 {
		x, y = newEuclid(x, y).shorten()
	}
	return gcdSmall(x, y)
}

// gcdSmall returns the greatest common divisor of an x of any size and a y of at most two words.
func gcdSmall(x, y natural) natural {
	if len(y) == 0 {
		return x
	}
	_, rest := x.div(y)
	a, _ := y.small()
	b, _ := rest.small()
	for b != 0 {
		a, b = b, a%b
	}
	return fromUint(a)
}

// euclid is the state of Euclid's algorithm as Lehmer does it: the highest 64 bits of x and y determine many of its steps, which are then done at once. x is not below y. x and y are of its own, of the same length, that of x without words of 0 above; freeX and freeY are at least as long.
type euclid struct {
	x, y, freeX, freeY natural
}

func newEuclid(x, y natural) *euclid {
	n := len(x)
	e := &euclid{make(natural, n), make(natural, n), make(natural, n), make(natural, n)}
	copy(e.x, x)
	copy(e.y, y)
	return e
}

// shorten does steps until y has at most two words, and returns x and y.
func (e *euclid) shorten() (natural, natural) {
	for {
		y := e.y.trim()
		if len(y) <= 2 {
			return e.x, y
		}
		s := foresee(e.x, e.y)
		if s.v0 == 0 {
			e.divide(y)
		} else {
			e.leap(s)
		}
	}
}

// divide does one step.
func (e *euclid) divide(y natural) {
	_, rest := e.x.div(y)
	n := copy(e.x, rest)
	clear(e.x[n:])
	e.x, e.y = y, e.x[:len(y)]
}

// leap does several steps.
func (e *euclid) leap(s steps) {
	n := len(e.x)
	e.freeX, e.freeY = e.freeX[:n], e.freeY[:n]
	if s.even {
		difference(e.freeX, e.x, e.y, s.u0, s.v0)
		difference(e.freeY, e.y, e.x, s.v1, s.u1)
	} else {
		difference(e.freeX, e.y, e.x, s.v0, s.u0)
		difference(e.freeY, e.x, e.y, s.u1, s.v1)
	}
	e.x, e.y, e.freeX, e.freeY = e.freeX, e.freeY, e.x, e.y
	e.x = e.x.trim()
	e.y = e.y[:len(e.x)]
}

// difference writes x u - y v, which is from 0 to x or y, to z; all three have the same length.
func difference(z, x, y natural, u, v uint32) {
	var plus, minus uint64
	var borrow uint32
	for i := range z {
		plus += uint64(x[i]) * uint64(u)
		minus += uint64(y[i]) * uint64(v)
		z[i], borrow = bits.Sub32(uint32(plus), uint32(minus), borrow)
		plus >>= wordBits
		minus >>= wordBits
	}
}

// steps says what several steps make of x and y: x u0 - y v0 and y v1 - x u1 if their number is even, otherwise y v0 - x u0 and x u1 - y v1. If v0 is 0 there are less than two, which a division does as well.
type steps struct {
	u0, u1, v0, v1 uint32
	even           bool
}

// foresee returns the steps that the highest 64 bits of x and y determine for sure (by Collins' condition), for x and y of the same length, at least 3, and x without a word of 0 above. A factor and the rest it belongs to are together below 2^64 and the rest is not below the factor, so factors have at most 32 bits.
func foresee(x, y natural) steps {
	shift := bits.LeadingZeros32(x[len(x)-1])
	a, b := highest(x, shift), highest(y, shift)
	var u0, u1, u2 uint64 = 0, 1, 0
	var v0, v1, v2 uint64 = 0, 0, 1
	even := false
	for b >= v2 && a-b >= v1+v2 {
		q := a / b
		a, b = b, a%b
		u0, u1, u2 = u1, u2, u1+q*u2
		v0, v1, v2 = v1, v2, v1+q*v2
		even = !even
	}
	return steps{uint32(u0), uint32(u1), uint32(v0), uint32(v1), even}
}

// highest returns the two highest words of x, shifted up together with the word below them.
func highest(x natural, shift int) uint64 {
	n := len(x)
	top := uint64(x[n-1])<<wordBits | uint64(x[n-2])
	return top<<shift | uint64(x[n-3])>>(wordBits-shift)
}
