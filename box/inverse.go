package box

import (
	"math"

	"waveport/api"
	"waveport/num"
)

// Inv returns the tightest box around all 1/x.
func (b Box) Inv() (Box, api.Errno) {
	if !b.Clear() {
		return Box{}, api.ErrZero
	}
	// The imaginary part of 1/x is the real part of 1/(i x).
	return Box{inverses(b.re, b.im), inverses(b.im.neg(), b.re)}, api.OK
}

// inverses returns the tightest span around the real parts p/(p^2 + q^2) of 1/(p + q i), for all p of re and q of im, which are never both 0.
func inverses(re, im Span) Span {
	return Span{0 - greatestInverse(re.neg(), im), greatestInverse(re, im)}
}

// greatestInverse returns the upper end of inverses.
func greatestInverse(re, im Span) float64 {
	least, greatest := im.sizes()
	if re.hi > 0 {
		// For a p above 0 it is greatest for the least |q|, and then it rises up to p = |q| and falls from there on.
		p := min(max(least, re.lo), re.hi)
		return inverse(p, least).hi
	}
	// Otherwise it is not above 0, so it is greatest for the greatest |q|, and then it falls and rises.
	return hull(inverse(re.lo, greatest), inverse(re.hi, greatest)).hi
}

// inverse returns the tightest span around p/(p^2 + q^2), or its limit; p and q are not both 0.
func inverse(p, q float64) Span {
	if math.IsInf(p, 0) || math.IsInf(q, 0) {
		return Span{}
	}
	x, _ := num.Complex(complex(p, q))
	y, _ := num.Int(1).Div(x)
	return around(y)
}
