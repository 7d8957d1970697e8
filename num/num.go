// Package num is layer 1: exact complex numbers whose parts are fractions, and linear algebra over any field of numbers. See shared/doc/01-num.md.
package num

import "waveport/api"

// Field is the constraint of the number types: Num, and the boxes of layer 2.
type Field[T any] interface {
	// Of returns the T for an exact number; the receiver does not matter.
	Of(x Num) T
	Add(y T) T
	Sub(y T) T
	Mul(y T) T
	// Div returns ErrZero if y is not Clear.
	Div(y T) (T, api.Errno)
	Neg() T
	Conj() T
	// Clear reports whether the number is certainly not zero.
	Clear() bool
	// Same reports whether two numbers are equal as values.
	Same(y T) bool
}

// Rooted is the constraint of number types with square roots and the sign of the imaginary part.
type Rooted[T any] interface {
	Field[T]
	// Sqrt returns a square root, and whether there is one.
	Sqrt() (T, bool)
	// Side returns the sign of the imaginary part: -1, 0 or 1; 0 if it is not certain.
	Side() int
}

// Num is a complex number whose parts are fractions. The zero value is 0. A Num never changes.
//
// It is (re + im i)/den in lowest terms: no whole number above 1 divides all three. A den of 1 is left empty, so that the zero value is 0.
type Num struct {
	re, im integer
	den    natural
}

// lowest returns (re + im i)/den, where den is not 0 or is empty.
func lowest(re, im integer, den natural) Num {
	return reduced(re, im, den, den)
}

// reduced returns (re + im i)/den, where each common divisor of the three divides bound.
func reduced(re, im integer, den, bound natural) Num {
	if len(den) == 0 || den.isOne() || re.isZero() && im.isZero() {
		return Num{re, im, nil}
	}
	if g := common(re.size, im.size, bound); !g.isOne() {
		re, im, den = re.exact(g), im.exact(g), den.exact(g)
	}
	if den.isOne() {
		den = nil
	}
	return Num{re, im, den}
}

// common returns the greatest common divisor of x, y and z, which is not 0.
func common(x, y, z natural) natural {
	return z.gcd(x).gcd(y)
}

// denominator returns the den of x, also if it is 1.
func (x Num) denominator() natural {
	if len(x.den) == 0 {
		return natural{1}
	}
	return x.den
}

// Int returns n.
func Int(n int64) Num {
	return Num{re: fromInt(n)}
}

// New returns (re + im i)/den.
func New(re, im, den int64) (Num, api.Errno) {
	if den == 0 {
		return Num{}, api.ErrZero
	}
	d := fromInt(den)
	return lowest(fromInt(re).signed(d.negative), fromInt(im).signed(d.negative), d.size), api.OK
}

// Of returns y.
func (x Num) Of(y Num) Num {
	return y
}

// Add returns x + y.
func (x Num) Add(y Num) Num {
	switch {
	case !x.Clear():
		return y
	case !y.Clear():
		return x
	case len(x.den) == 0 && len(y.den) == 0:
		return Num{x.re.add(y.re), x.im.add(y.im), nil}
	}
	// Only what the denominators have in common can be cancelled in the sum.
	d, e := x.denominator(), y.denominator()
	g := d.gcd(e)
	d, e = d.exact(g), e.exact(g)
	re := x.re.scale(e).add(y.re.scale(d))
	im := x.im.scale(e).add(y.im.scale(d))
	return reduced(re, im, d.mul(y.denominator()), g)
}

// Sub returns x - y.
func (x Num) Sub(y Num) Num {
	return x.Add(y.Neg())
}

// Mul returns x y.
func (x Num) Mul(y Num) Num {
	re := x.re.mul(y.re).sub(x.im.mul(y.im))
	im := x.re.mul(y.im).add(x.im.mul(y.re))
	if len(x.den) == 0 && len(y.den) == 0 {
		return Num{re, im, nil}
	}
	return lowest(re, im, x.denominator().mul(y.denominator()))
}

// Div returns x/y.
func (x Num) Div(y Num) (Num, api.Errno) {
	if !y.Clear() {
		return Num{}, api.ErrZero
	}
	if y.Real() {
		d := y.denominator()
		re, im := x.re.signed(y.re.negative), x.im.signed(y.re.negative)
		return lowest(re.scale(d), im.scale(d), x.denominator().mul(y.re.size)), api.OK
	}
	// 1/y is Conj(y)/Norm(y), and the denominator of y cancels once.
	d := y.denominator()
	square := y.re.mul(y.re).add(y.im.mul(y.im)).size
	return x.Mul(lowest(y.re.scale(d), y.im.scale(d).neg(), square)), api.OK
}

// Neg returns -x.
func (x Num) Neg() Num {
	return Num{x.re.neg(), x.im.neg(), x.den}
}

// Conj returns the conjugate of x.
func (x Num) Conj() Num {
	return Num{x.re, x.im.neg(), x.den}
}

// Clear reports whether x is not 0.
func (x Num) Clear() bool {
	return !x.re.isZero() || !x.im.isZero()
}

// Same reports whether x and y are equal.
func (x Num) Same(y Num) bool {
	return x.re.same(y.re) && x.im.same(y.im) && x.den.compare(y.den) == 0
}

// Re returns the real part of x.
func (x Num) Re() Num {
	return lowest(x.re, integer{}, x.den)
}

// Im returns the imaginary part of x, a real number.
func (x Num) Im() Num {
	return lowest(x.im, integer{}, x.den)
}

// Norm returns the square of the absolute value of x.
func (x Num) Norm() Num {
	return lowest(x.re.mul(x.re).add(x.im.mul(x.im)), integer{}, x.den.mul(x.den))
}

// Real reports whether the imaginary part of x is 0.
func (x Num) Real() bool {
	return x.im.isZero()
}

// Side returns the sign of the imaginary part of x: -1, 0 or 1.
func (x Num) Side() int {
	return x.im.sign()
}

// Cmp compares x and y by their real parts, and then by their imaginary parts.
func (x Num) Cmp(y Num) int {
	d, e := x.denominator(), y.denominator()
	if c := x.re.scale(e).compare(y.re.scale(d)); c != 0 {
		return c
	}
	return x.im.scale(e).compare(y.im.scale(d))
}
