package num

import "math"

// Sqrt returns the square root of x, and whether x has one.
func (x Num) Sqrt() (Num, bool) {
	// The real part u of the root is the root of (|x| + p)/2, and |x| has to be a fraction, too.
	size, ok := x.re.mul(x.re).add(x.im.mul(x.im)).size.squareRoot()
	if !ok {
		return Num{}, false
	}
	twice := x.denominator().up(1)
	u, ok := lowest(integer{size: size}.add(x.re), integer{}, twice).realRoot()
	if !ok {
		return Num{}, false
	}
	if !u.Clear() { // x is not above 0, so the root is imaginary
		v, ok := x.Neg().realRoot()
		return v.turned(), ok
	}
	v, _ := lowest(x.im, integer{}, twice).Div(u)
	return u.Add(v.turned()), true
}

// realRoot returns the square root of a real x that is not below 0, and whether it is a fraction.
func (x Num) realRoot() (Num, bool) {
	above, ok := x.re.size.squareRoot()
	if !ok {
		return Num{}, false
	}
	below, ok := x.denominator().squareRoot()
	if !ok {
		return Num{}, false
	}
	return lowest(integer{size: above}, integer{}, below), true
}

// squareRoot returns the square root of x, and whether it is a whole number.
func (x natural) squareRoot() (natural, bool) {
	r := x.root()
	return r, r.mul(r).compare(x) == 0
}

// root returns the square root of x, rounded down.
func (x natural) root() natural {
	n := x.length()
	if n <= 52 {
		a, _ := x.small()
		return fromUint(uint64(math.Sqrt(float64(a))))
	}
	// Newton's method comes down to the root from a number above it, here one with the first half of its bits.
	half := n / 4
	r := x.down(2 * half).root().add(natural{1}).up(half)
	for {
		q, _ := x.div(r)
		next := r.add(q).down(1)
		if next.compare(r) >= 0 {
			return r
		}
		r = next
	}
}

// turned returns i times a real x.
func (x Num) turned() Num {
	return Num{integer{}, x.re, x.den}
}
