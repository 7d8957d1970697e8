package box_test

import (
	"math"
	"testing"

	"waveport/api"
	"waveport/box"
)

// inverseParts returns candidates for the bounds of p/(p^2 + q^2): the corners, and the places on the edges at which it can be greatest or least.
func inverseParts(re, im box.Span) []limit {
	left, right := re.Ends()
	below, above := im.Ends()
	var out []limit
	candidate := func(p, q float64) {
		if p < left || p > right || q < below || q > above {
			return
		}
		if math.IsInf(p, 0) || math.IsInf(q, 0) {
			out = append(out, limitOf(0))
			return
		}
		x, y := limitOf(p), limitOf(q)
		size, _ := x.mul(x).add(y.mul(y))
		out = append(out, x.mul(size.inverse()))
	}
	for _, p := range []float64{left, right} {
		for _, q := range []float64{below, above} {
			candidate(p, q)
			candidate(q, q)
			candidate(-q, q)
		}
		candidate(p, 0)
	}
	return out
}

func TestInv(t *testing.T) {
	for _, c := range []struct{ lo, hi, wantLo, wantHi complex128 }{
		{1, 2 + 1i, complex(0x1.9999999999999p-2, -0.5), 1},
		{1 + 1i, 3 + 1i, complex(0x1.3333333333333p-2, -0.5), complex(0.5, -0x1.9999999999999p-4)},
		{2, 2, 0.5, 0.5},
		{1i, 1i, -1i, -1i},
		{-2i, -1i, 0.5i, 1i},
		{complex(tiny, 0), complex(tiny, 0), complex(huge, 0), complex(inf, 0)},
		{complex(huge, 0), complex(huge, 0), complex(0x1p-1024, 0), complex(0x1p-1024+tiny, 0)},
		{complex(1, -inf), complex(inf, inf), complex(0, -0.5), 1 + 0.5i},
		{complex(-inf, -inf), complex(inf, -1), complex(-0.5, 0), 0.5 + 1i},
		{complex(-inf, -inf), complex(-2, inf), complex(-0.5, -0.25), 0.25i},
		{-2 + 1i, 2 + 1i, -0.5 - 1i, complex(0.5, -0x1.9999999999999p-3)},
		{1 - 1i, 2 + 2i, complex(0x1.9999999999999p-3, -0.5), 1 + 0.5i},
		{-1 + 2i, 1i + 2i, complex(-0x1.999999999999ap-3, -0.5), complex(0, -0x1.3333333333333p-2)},
	} {
		b, e := made(t, c.lo, c.hi).Inv()
		if e != api.OK {
			t.Errorf("Inv of %v to %v: %d", c.lo, c.hi, e)
		}
		hasCorners(t, b, c.wantLo, c.wantHi, "Inv", c.lo, c.hi)
	}
	for _, c := range []struct{ lo, hi complex128 }{{0, 0}, {-1, 0}, {-1 - 1i, 1 + 1i}, {0, 1i}, {complex(-inf, -inf), complex(inf, inf)}} {
		b, e := made(t, c.lo, c.hi).Inv()
		q, f := made(t, 1, 1).Div(made(t, c.lo, c.hi))
		if e != api.ErrZero || f != api.ErrZero {
			t.Errorf("Inv of %v to %v: %d, Div: %d", c.lo, c.hi, e, f)
		}
		hasCorners(t, b, 0, 0, "Inv with an error")
		hasCorners(t, q, 0, 0, "Div with an error")
	}
}

// TestInvAgainstRationals compares with the extremes among fractions of any size.
func TestInvAgainstRationals(t *testing.T) {
	d := dice(7)
	for range 6000 {
		b := d.box(t)
		if d.below(2) == 0 { // of about the same size, not often around 0
			x, y := d.signed(1+3*d.width()), d.signed(1+3*d.width())
			b = made(t, complex(x, y), complex(x+d.width(), y+d.width()))
		}
		if !b.Clear() {
			continue
		}
		i, e := b.Inv()
		if e != api.OK {
			t.Errorf("Inv of %v: %d", b, e)
		}
		re, im := b.Parts()
		p, q := i.Parts()
		lo, hi := tightest(inverseParts(re, im))
		hasEnds(t, p, lo, hi, "Inv", b)
		lo, hi = tightest(negatives(inverseParts(im, re)))
		hasEnds(t, q, lo, hi, "Inv", b)
	}
}
