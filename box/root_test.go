package box_test

import (
	"math"
	"math/big"
	"testing"

	"waveport/box"
	"waveport/num"
)

// rootBits is more than twice the number of binary places in the square of a float64: so the sum of a number and its absolute value is still known well if nearly all of it cancels.
const rootBits = 6000

func bigFloat(f float64) *big.Float { return new(big.Float).SetPrec(rootBits).SetFloat64(f) }

// aroundBig returns the float64s next to x.
func aroundBig(x *big.Float) (lo, hi float64) {
	f, where := x.Float64()
	switch where {
	case big.Above:
		return math.Nextafter(f, -inf) + 0, f + 0
	case big.Below:
		return f + 0, math.Nextafter(f, inf) + 0
	}
	return f + 0, f + 0
}

// rootPart returns the float64s next to the root of (|p + q i| + p)/2, or to its limit.
func rootPart(p, q float64) (lo, hi float64) {
	switch {
	case p == inf || math.IsInf(q, 0):
		return inf, inf
	case p == -inf:
		return 0, 0
	}
	x, y := bigFloat(p), bigFloat(q)
	size := new(big.Float).SetPrec(rootBits).Mul(x, x)
	size.Add(size, y.Mul(y, y))
	size.Sqrt(size)
	size.Add(size, x)
	size.Quo(size, bigFloat(2))
	return aroundBig(size.Sqrt(size))
}

// tightestRoot returns the ends of the roots of s, which has no element below 0.
func tightestRoot(s box.Span) (lo, hi float64) {
	a, b := s.Ends()
	lo, _ = rootPart(a, 0)
	_, hi = rootPart(b, 0)
	return lo, hi
}

// tightestRoots returns the corners of the principal roots of a box, from candidates: the corners, and the points on the real axis with the roots on either side of the cut.
func tightestRoots(b box.Box) (lo, hi complex128) {
	re, im := b.Parts()
	left, right := re.Ends()
	below, above := im.Ends()
	least, most := complex(inf, inf), complex(-inf, -inf)
	candidate := func(p, q, sign float64) {
		l, h := rootPart(p, q)
		least, most = complex(min(real(least), l), imag(least)), complex(max(real(most), h), imag(most))
		l, h = rootPart(-p, q)
		if sign < 0 {
			l, h = 0-h, 0-l
		}
		least, most = complex(real(least), min(imag(least), l)), complex(real(most), max(imag(most), h))
	}
	for _, p := range []float64{left, right} {
		if above >= 0 {
			candidate(p, above, 1)
			candidate(p, max(below, 0), 1)
		}
		if below < 0 {
			candidate(p, below, -1)
			candidate(p, min(above, 0), -1)
		}
	}
	return least, most
}

func TestRoots(t *testing.T) {
	two, three := 0x1.6a09e667f3bccp0, 0x1.bb67ae8584caap0
	for _, c := range []struct{ lo, hi, wantLo, wantHi complex128 }{
		{0, 0, 0, 0},
		{-4, -4, 2i, 2i},
		{4, 9, 2, 3},
		{2i, 2i, 1 + 1i, 1 + 1i},
		{-2i, -2i, 1 - 1i, 1 - 1i},
		{3 + 4i, 3 + 4i, 2 + 1i, 2 + 1i},
		{-3 - 4i, -3 - 4i, 1 - 2i, 1 - 2i},
		{2, 2, complex(two, 0), complex(math.Nextafter(two, 2), 0)},
		{-4, 0, 0, 2i},
		{-9, 16, 0, 4 + 3i},
		{-3, -3 + 4i, complex(0, three), 1 + 2i}, // the cut belongs to the side above it
		{-3 - 4i, -3, -2i, complex(1, math.Nextafter(three, 2))},
		{-3 - 4i, -3 + 4i, -2i, 1 + 2i},
		{complex(-1, -tiny), complex(-1, tiny), complex(0, -math.Nextafter(1, 2)), complex(tiny, math.Nextafter(1, 2))},
		{complex(-1, -tiny), complex(-1, -tiny), complex(0, -math.Nextafter(1, 2)), complex(tiny, -1)},
		{complex(-inf, 0), 0, 0, complex(0, inf)},
		{0, complex(inf, 0), 0, complex(inf, 0)},
		{complex(-inf, -inf), complex(inf, inf), complex(0, -inf), complex(inf, inf)},
		{4, complex(inf, inf), 2, complex(inf, inf)},
		{complex(-inf, 4), complex(-3, 4), complex(0, 2), complex(1, inf)},
		{complex(3, -4), complex(inf, -4), complex(2, -1), complex(inf, 0)},
		{complex(3, 4), complex(inf, 4), 2, complex(inf, 1)},
		{complex(huge, 0), complex(huge, 0), complex(math.Nextafter(0x1p512, 0), 0), 0x1p512},
		{complex(-tiny, 0), complex(-tiny, 0), 0x1p-537i, 0x1p-537i},
		{complex(0, 2*tiny), complex(0, 2*tiny), complex(0x1p-537, 0x1p-537), complex(0x1p-537, 0x1p-537)},
		{complex(-huge, tiny), complex(-huge, tiny), complex(0, math.Nextafter(0x1p512, 0)), complex(tiny, 0x1p512)},
	} {
		b, ok := made(t, c.lo, c.hi).Sqrt()
		if !ok {
			t.Errorf("Sqrt of %v to %v: none", c.lo, c.hi)
		}
		hasCorners(t, b, c.wantLo, c.wantHi, "Sqrt", c.lo, c.hi)
	}
	b, _ := made(t, -4-1i, -4).Sqrt()
	if real(b.Lo()) != 0 || imag(b.Hi()) != 2 || imag(b.Lo()) >= -2 || imag(b.Lo()) < -2.1 {
		t.Errorf("Sqrt across the cut: %v to %v", b.Lo(), b.Hi())
	}
}

// TestRootsAgainstBigFloats compares the roots with ones of thousands of bits.
func TestRootsAgainstBigFloats(t *testing.T) {
	d := dice(2)
	for range 700 {
		b := d.box(t)
		r, ok := b.Sqrt()
		if !ok {
			t.Errorf("Sqrt of %v: none", b)
		}
		lo, hi := tightestRoots(b)
		hasCorners(t, r, lo, hi, "Sqrt", b)
	}
}

// TestRootsOfSquares has roots that are floats, which both ends have to meet.
func TestRootsOfSquares(t *testing.T) {
	d := dice(3)
	for range 300 {
		root := complex(float64(d.below(2000)+1), float64(d.below(4001)-2000))
		scale := math.Ldexp(1, d.below(900)-450)
		square := root * root
		x := complex(real(square)*scale*scale, imag(square)*scale*scale)
		want := complex(real(root)*scale, imag(root)*scale)
		r, _ := made(t, x, x).Sqrt()
		hasCorners(t, r, want, want, "Sqrt", x)
	}
}

// TestRootEncloses is P2.7 and P2.2: the root multiplied by itself, and the roots of exact numbers.
func TestRootEncloses(t *testing.T) {
	d := dice(4)
	for range 700 {
		b := d.box(t)
		r, _ := b.Sqrt()
		if !b.In(r.Mul(r)) {
			t.Errorf("%v is not in the square of its root %v", b, r)
		}
		inner, _ := d.boxWithin(t, b).Sqrt()
		if !inner.In(r) {
			t.Errorf("Sqrt of a box in %v is not in that of it", b)
		}
	}
	for range 300 {
		x := together(d.element(span(t, -3, 3)), d.element(span(t, -3, 3)))
		square := x.Mul(x)
		root, ok := square.Sqrt()
		b := box.Box{}.Of(square)
		for range 3 {
			r, _ := b.Sqrt()
			if !ok || !r.Has(root) {
				t.Errorf("Sqrt of %v does not have %s", b, root.Text())
			}
			b = b.Hull(made(t, complex(-d.width(), -d.width()), complex(d.width(), d.width())).Add(b))
		}
	}
	s := span(t, 2, 5)
	r, _ := s.Sqrt()
	if !s.In(r.Square()) || !r.Has(num.Int(2)) {
		t.Error("Sqrt of a span")
	}
}
