package box

import (
	"math"

	"waveport/num"
)

// Sqrt returns the tightest box around all principal square roots, and true.
func (b Box) Sqrt() (Box, bool) {
	least, greatest := b.im.sizes()
	re := Span{realRoot(b.re.lo, least).lo, realRoot(b.re.hi, greatest).hi}
	return Box{re, b.imaginaryRoots()}, true
}

// imaginaryRoots returns the tightest span around the imaginary parts of all principal square roots of numbers p + q i of b. Their absolute values are the real parts of the roots of -p + q i: they fall with p and rise with |q|. They are below 0 exactly for a q below 0. So of numbers on either side of the real axis, those on the side of an end decide about it.
func (b Box) imaginaryRoots() Span {
	var s Span
	if b.im.lo < 0 {
		s.lo = 0 - realRoot(0-b.re.lo, b.im.lo).hi
	} else {
		s.lo = realRoot(0-b.re.hi, b.im.lo).lo
	}
	if b.im.hi < 0 {
		s.hi = 0 - realRoot(0-b.re.hi, b.im.hi).lo
	} else {
		s.hi = realRoot(0-b.re.lo, b.im.hi).hi
	}
	return s
}

// realRoot returns the tightest span around the real part of the principal square root of p + q i, or around its limit: the u from 0 on with 4 u^2 (u^2 - p) = q^2, the greater one if there are two. Both ends of an infinite limit are +Inf.
func realRoot(p, q float64) Span {
	switch {
	case math.IsInf(p, 1) || math.IsInf(q, 0):
		return Span{math.Inf(1), math.Inf(1)}
	case math.IsInf(p, -1):
		return Span{}
	}
	x, _ := num.Complex(complex(p, 0))
	y, _ := num.Complex(complex(q, 0))
	y = y.Mul(y)
	compare := func(u float64) int {
		r, _ := num.Complex(complex(u, 0))
		r = r.Mul(r)
		return num.Int(4).Mul(r).Mul(r.Sub(x)).Cmp(y)
	}
	lo := greatest(guessRoot(p, q), func(u float64) bool { return compare(u) <= 0 })
	if compare(lo) == 0 {
		return Span{lo, lo}
	}
	return Span{lo, math.Nextafter(lo, math.Inf(1))}
}

// guessRoot returns about the real part of the principal square root of p + q i, for finite parts.
func guessRoot(p, q float64) float64 {
	_, e := math.Frexp(max(math.Abs(p), math.Abs(q)))
	e &^= 1
	x, y := math.Ldexp(p, -e), math.Ldexp(q, -e)
	r := math.Sqrt((math.Hypot(x, y) + math.Abs(x)) / 2)
	if p < 0 {
		r = math.Abs(y) / 2 / r
	}
	return math.Ldexp(r, e/2)
}

// greatest returns the greatest finite float64 for which holds holds: it does for 0, and for each one from 0 on that is less than another one for which it does. The nearer the guess is, the shorter is the search.
func greatest(guess float64, holds func(float64) bool) float64 {
	// Floats from 0 on are in the order of their bits.
	low, high := uint64(0), math.Float64bits(math.Inf(1))
	at := min(math.Float64bits(guess), high-1)
	for step := uint64(1); high-low > 1; step *= 2 {
		if holds(math.Float64frombits(at)) {
			low = at
			at += step
		} else {
			high = at
			at -= step
		}
		if at <= low || at >= high {
			at = low + (high-low)/2
		}
	}
	return math.Float64frombits(low)
}
