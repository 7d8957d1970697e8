package box_test

import (
	"math"
	"testing"

	"waveport/api"
	"waveport/box"
	"waveport/num"
)

func TestMake(t *testing.T) {
	nan, minus := math.NaN(), math.Copysign(0, -1)
	for _, c := range []struct {
		lo, hi complex128
		e      api.Errno
	}{
		{1 + 2i, 3 + 4i, api.OK},
		{1 + 2i, 1 + 2i, api.OK},
		{complex(-inf, -inf), complex(inf, inf), api.OK},
		{complex(-tiny, tiny), complex(tiny, 3*tiny), api.OK},
		{2, 1, api.ErrOrder},
		{1i, 0, api.ErrOrder},
		{2 + 2i, 1 + 1i, api.ErrOrder},
		{complex(nan, 0), 1, api.ErrArg},
		{complex(0, nan), 1, api.ErrArg},
		{0, complex(nan, 0), api.ErrArg},
		{0, complex(0, nan), api.ErrArg},
		{complex(inf, 0), complex(inf, 0), api.ErrArg},
		{complex(0, inf), complex(0, inf), api.ErrArg},
		{complex(-inf, 0), complex(-inf, 0), api.ErrArg},
		{complex(0, -inf), complex(0, -inf), api.ErrArg},
		{complex(2, nan), 1, api.ErrArg},
		{complex(nan, 2), complex(1, 1), api.ErrArg},
		{complex(2, inf), complex(1, inf), api.ErrArg},
	} {
		b, e := box.Make(c.lo, c.hi)
		if e != c.e {
			t.Errorf("Make(%v, %v): %d, want %d", c.lo, c.hi, e, c.e)
		}
		if e != api.OK {
			c.lo, c.hi = 0, 0
		}
		hasCorners(t, b, c.lo, c.hi, "Make")
	}
	hasCorners(t, made(t, complex(minus, minus), complex(minus, minus)), 0, 0, "Make of -0")
	hasCorners(t, box.Box{}, 0, 0, "zero value")
}

func TestOf(t *testing.T) {
	third := 0x1.5555555555555p-2
	for _, c := range []struct {
		x      string
		lo, hi complex128
	}{
		{"0", 0, 0},
		{"1/2-3i", 0.5 - 3i, 0.5 - 3i},
		{"1/3-1/3i", complex(third, -math.Nextafter(third, 1)), complex(math.Nextafter(third, 1), -third)},
		{"1e400-1e400i", complex(huge, -inf), complex(inf, -huge)},
		{"1e-400-1e-400i", complex(0, -tiny), complex(tiny, 0)},
	} {
		hasCorners(t, box.Box{}.Of(parse(t, c.x)), c.lo, c.hi, "Of", c.x)
		hasCorners(t, made(t, 1, 5+7i).Of(parse(t, c.x)), c.lo, c.hi, "Of", c.x)
	}
}

func TestParts(t *testing.T) {
	re, im := span(t, 1, 2), span(t, -inf, 3)
	b := box.Pair(re, im)
	hasCorners(t, b, complex(1, -inf), complex(2, 3), "Pair")
	a, c := b.Parts()
	if !sameSpan(a, re) || !sameSpan(c, im) {
		t.Error("Parts")
	}
}

func TestHasAndIn(t *testing.T) {
	b := made(t, 1-1i, 2)
	for _, c := range []struct {
		x    string
		want bool
	}{
		{"1", true}, {"2-1i", true}, {"3/2-1/3i", true}, {"3/2+1e-400i", false}, {"5/2", false}, {"1/2-1/2i", false}, {"1-2i", false}, {"0", false},
	} {
		if got := b.Has(parse(t, c.x)); got != c.want {
			t.Errorf("Has(%s): %v", c.x, got)
		}
	}
	for _, c := range []struct {
		lo, hi complex128
		want   bool
	}{
		{1 - 1i, 2, true},
		{0 - 2i, 3 + 1i, true},
		{1, 2, false},
		{1 - 1i, 1.5, false},
		{complex(-inf, -1), complex(inf, 0), true},
	} {
		if got := b.In(made(t, c.lo, c.hi)); got != c.want {
			t.Errorf("In %v to %v: %v", c.lo, c.hi, got)
		}
	}
}

func TestHullAndMeet(t *testing.T) {
	b := made(t, 1, 2+1i)
	hasCorners(t, b.Hull(box.Box{}), 0, 2+1i, "Hull")
	hasCorners(t, b.Hull(made(t, complex(-inf, 3), 1.5+4i)), complex(-inf, 0), 2+4i, "Hull")
	for _, c := range []struct {
		lo, hi, wantLo, wantHi complex128
		ok                     bool
	}{
		{2 - 1i, 3, 2, 2, true},
		{1 - 1i, 3, 1, 2, true},
		{complex(-inf, -inf), complex(inf, inf), 1, 2 + 1i, true},
		{3, 4, 0, 0, false},
		{1 + 2i, 2 + 2i, 0, 0, false},
		{0, complex(math.Nextafter(1, 0), 1), 0, 0, false},
	} {
		m, ok := b.Meet(made(t, c.lo, c.hi))
		if ok != c.ok {
			t.Errorf("Meet with %v to %v: %v", c.lo, c.hi, ok)
		}
		hasCorners(t, m, c.wantLo, c.wantHi, "Meet", c.lo, c.hi)
	}
}

func TestBoxOperations(t *testing.T) {
	b := made(t, 1, 2+1i)
	hasCorners(t, b.Mul(b), 0, 4+4i, "Mul")
	hasCorners(t, b.Add(b), 2, 4+2i, "Add")
	hasCorners(t, b.Sub(b), -1-1i, 1+1i, "Sub")
	hasCorners(t, b.Neg(), -2-1i, -1, "Neg")
	hasCorners(t, b.Conj(), 1-1i, 2, "Conj")
	hasEnds(t, b.Norm(), 1, 5, "Norm")
	hasEnds(t, made(t, -3-1i, 1+2i).Norm(), 0, 13, "Norm around 0")
	hasEnds(t, made(t, complex(-inf, 2), complex(-3, 4)).Norm(), 13, inf, "Norm")
	hasEnds(t, made(t, complex(1, tiny), complex(1, tiny)).Norm(), 1, math.Nextafter(1, 2), "Norm")
	q, e := made(t, 2, 2).Div(made(t, 1i, 1i))
	if e != api.OK {
		t.Errorf("Div: %d", e)
	}
	hasCorners(t, q, -2i, -2i, "Div")
	zero := made(t, 0, 0)
	hasCorners(t, zero.Neg(), 0, 0, "Neg of 0")
	hasCorners(t, zero.Conj(), 0, 0, "Conj of 0")
	hasCorners(t, zero.Mul(made(t, complex(-inf, -inf), complex(inf, inf))), 0, 0, "Mul of 0")
}

// TestMulRoundsOnce has products whose bounds cancel: what is left shows whether they were rounded before.
func TestMulRoundsOnce(t *testing.T) {
	a, c := math.Nextafter(1, 2), math.Nextafter(1, 0)
	// (1 + 2h)(1 - h) - 1 = h - 2h^2 for h = 2^-53
	b := made(t, complex(a, 1), complex(a, 1)).Mul(made(t, complex(c, 1), complex(c, 1)))
	want := 0x1.ffffffffffffep-54 // h - 2h^2
	if re, _ := b.Parts(); !re.Has(exactly(0x1p-53).Sub(exactly(0x1p-105))) {
		t.Errorf("Mul: %v", b)
	}
	hasCorners(t, b, complex(want, 2), complex(want, math.Nextafter(2, 3)), "Mul")
	// p^2 - q = 2^-80 for p = 1 + 2^-40 and q = 1 + 2^-39
	p, q, rest := 1+0x1p-40, 1+0x1p-39, 0x1p-80
	for _, c := range []struct {
		lo, hi, otherLo, otherHi complex128
		wantLo, wantHi           float64
	}{
		{complex(p, q), complex(p, q), complex(p, 1), complex(p, 1), rest, rest},
		{complex(q, p), complex(q, p), complex(1, p), complex(1, p), -rest, -rest},
		{complex(-q, -q), complex(p, -q), complex(-1, -1), complex(p, -1), math.Nextafter(-p*q-q, -3), rest},
	} {
		re, _ := made(t, c.lo, c.hi).Mul(made(t, c.otherLo, c.otherHi)).Parts()
		hasEnds(t, re, c.wantLo, c.wantHi, "Mul", c.lo, c.hi, c.otherLo, c.otherHi)
	}
	x := made(t, complex(huge, huge), complex(huge, huge))
	hasCorners(t, x.Mul(x), complex(0, huge), complex(0, inf), "Mul beyond all floats")
	y := made(t, complex(tiny, tiny), complex(tiny, tiny))
	hasCorners(t, y.Mul(y), 0, complex(0, tiny), "Mul of the least floats")
	z := made(t, complex(huge, 0x1p-600), complex(huge, 0x1p-600))
	hasCorners(t, z.Mul(z.Conj()), complex(huge, 0), complex(inf, 0), "Mul of both")
}

func TestClearSameSide(t *testing.T) {
	for _, c := range []struct {
		lo, hi complex128
		clear  bool
		side   int
	}{
		{0, 0, false, 0},
		{-1 - 1i, 1 + 1i, false, 0},
		{-1, 0, false, 0},
		{complex(tiny, -1), 1 + 1i, true, 0},
		{complex(-1, tiny), 1 + 1i, true, 1},
		{-1 - 1i, complex(1, -tiny), true, -1},
		{-1, 1, false, 0},
		{1, 2, true, 0},
		{1 + 1i, complex(2, inf), true, 1},
		{complex(-inf, -inf), complex(inf, inf), false, 0},
	} {
		b := made(t, c.lo, c.hi)
		if b.Clear() != c.clear || b.Side() != c.side {
			t.Errorf("%v to %v: Clear %v, Side %d", c.lo, c.hi, b.Clear(), b.Side())
		}
		if !b.Same(made(t, c.lo, c.hi)) {
			t.Errorf("%v to %v: not Same", c.lo, c.hi)
		}
	}
	b, minus := made(t, 1, 2+1i), math.Copysign(0, -1)
	for _, c := range []struct{ lo, hi complex128 }{{1 - 1i, 2 + 1i}, {0.5, 2 + 1i}, {1, 2 + 2i}, {1, 3 + 1i}} {
		if b.Same(made(t, c.lo, c.hi)) {
			t.Errorf("Same as %v to %v", c.lo, c.hi)
		}
	}
	if !b.Same(made(t, complex(1, minus), 2+1i)) || !(box.Box{}).Same(made(t, complex(minus, 0), complex(0, minus))) {
		t.Error("zeros of either sign are not Same")
	}
}

// TestBoxesAgainstRationals compares the operations with those on fractions of any size.
func TestBoxesAgainstRationals(t *testing.T) {
	d := dice(5)
	for range 5000 {
		b, c := d.box(t), d.box(t)
		x, y := b.Parts()
		u, v := c.Parts()
		p, q := b.Mul(c).Parts()
		lo, hi := tightest(sums(products(limits(x), limits(u)), negatives(products(limits(y), limits(v)))))
		hasEnds(t, p, lo, hi, "Mul", b, c)
		lo, hi = tightest(sums(products(limits(x), limits(v)), products(limits(y), limits(u))))
		hasEnds(t, q, lo, hi, "Mul", b, c)
		lo, hi = tightest(sums(squares(x), squares(y)))
		hasEnds(t, b.Norm(), lo, hi, "Norm", b)
		if !b.Add(c).Same(box.Pair(x.Add(u), y.Add(v))) || !b.Sub(c).Same(box.Pair(x.Sub(u), y.Sub(v))) {
			t.Errorf("Add, Sub of %v, %v", b, c)
		}
		i, e := c.Inv()
		quotient, f := b.Div(c)
		if e != f || (e == api.ErrZero) == c.Clear() || !quotient.Same(b.Mul(i)) {
			t.Errorf("Div of %v, %v: %d, %d", b, c, e, f)
		}
	}
}

// TestPoints is P2.4.
func TestPoints(t *testing.T) {
	d := dice(6)
	for range 3000 {
		b := d.box(t)
		x := d.elementOf(b)
		if d.below(3) == 0 {
			x = d.elementOf(d.box(t))
		}
		o := box.Box{}.Of(x)
		floats := exactly(real(x.Near())).Same(x.Re()) && exactly(imag(x.Near())).Same(x.Im())
		if o.Has(x) && floats != (o.Lo() == o.Hi()) || !o.Has(x) {
			t.Errorf("Of(%s): %v", x.Text(), o)
		}
		if o.In(b) && !b.Has(x) {
			t.Errorf("%v is in %v, which does not have %s", o, b, x.Text())
		}
		if _, ok := o.Meet(b); b.Has(x) && !ok {
			t.Errorf("%v does not meet %v, which has %s", o, b, x.Text())
		}
		if want := elementOf(b, x); b.Has(x) != want {
			t.Errorf("%v has %s: %v", b, x.Text(), !want)
		}
	}
}

// elementOf compares x with the corners exactly.
func elementOf(b box.Box, x num.Num) bool {
	re, im := b.Parts()
	between := func(s box.Span, y num.Num) bool {
		lo, hi := s.Ends()
		return (lo == -inf || exactly(lo).Cmp(y) <= 0) && (hi == inf || y.Cmp(exactly(hi)) <= 0)
	}
	return between(re, x.Re()) && between(im, x.Im())
}
