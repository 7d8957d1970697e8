package box

import (
	"math"

	"waveport/api"
	"waveport/num"
)

// maxTurnText is the greatest number of bytes of the text of an end of a Turn.
const maxTurnText = 40

// firstPlaces is the number of binary places with which a cosine is computed first.
const firstPlaces = 96

// Turn returns the tightest box around the numbers exp(2 pi i t) for all t from s to e.
func Turn(s, e num.Num) (Box, api.Errno) {
	switch {
	case !s.Real() || !e.Real():
		return Box{}, api.ErrArg
	case s.Cmp(e) > 0:
		return Box{}, api.ErrOrder
	case len(s.Text()) > maxTurnText || len(e.Text()) > maxTurnText:
		return Box{}, api.ErrSize
	}
	quarter := part(4)
	return Box{cosines(s, e), cosines(s.Sub(quarter), e.Sub(quarter))}, api.OK
}

// part returns 1/n.
func part(n int64) num.Num {
	x, _ := num.New(1, 0, n)
	return x
}

// cosines returns the tightest span around the cosines of all numbers of turns from s to e.
func cosines(s, e num.Num) Span {
	c := cosine(s)
	if !s.Same(e) {
		c = hull(c, cosine(e))
	}
	if meetsInteger(s, e) {
		c = hull(c, Span{1, 1})
	}
	if half := part(2); meetsInteger(s.Sub(half), e.Sub(half)) {
		c = hull(c, Span{-1, -1})
	}
	return c
}

// meetsInteger reports whether one of the numbers from s to e is an integer.
func meetsInteger(s, e num.Num) bool {
	return e.Floor(0).Cmp(s) >= 0
}

// cosine returns the tightest span around the cosine of t turns.
func cosine(t num.Num) Span {
	t = t.Sub(t.Floor(0))
	if t.Cmp(part(2)) > 0 {
		t = num.Int(1).Sub(t)
	}
	if t.Cmp(part(4)) > 0 {
		return acuteCosine(part(2).Sub(t)).neg()
	}
	return acuteCosine(t)
}

// acuteCosine returns the tightest span around the cosine of t turns, for a t from 0 to 1/4.
func acuteCosine(t num.Num) Span {
	switch {
	case !t.Clear():
		return Span{1, 1}
	case t.Same(part(6)):
		return Span{0.5, 0.5}
	case t.Same(part(4)):
		return Span{}
	}
	// No other fraction of a turn has a rational cosine, so it differs from each float64, and sufficiently many places tell on which side it lies.
	one, _ := num.Complex(complex(math.Ldexp(1, firstPlaces), 0))
	for places := int64(firstPlaces); ; places *= 2 {
		margin := num.Int(8 * places)
		lo, hi := cosineBounds(t, one, margin)
		if c := around(lo); c == around(hi) {
			return c
		}
		one = one.Mul(one)
	}
}

// cosineBounds returns numbers below and above the cosine of t turns, for a t from 0 to 1/4. It computes with whole numbers, in units of which there are one in 1, a power of two, and margin is more than all that is rounded off: with 2^n units in 1, from n = 96 on, pi is within 6 n units, so the angle, at most half of pi, is within 3 n + 1, and so is its cosine; the series has less than n/2 terms, each of them within 2 units. This is together less than 8 n.
func cosineBounds(t, one, margin num.Num) (num.Num, num.Num) {
	angle := pi(one).Mul(t).Mul(num.Int(2)).Floor(0)
	square := quotient(angle.Mul(angle), one)
	sum, term := one, one
	for k := int64(1); term.Clear(); k++ {
		term = quotient(term.Mul(square), num.Int((2*k-1)*2*k).Mul(one))
		sum = alternate(sum, term, k)
	}
	lo, _ := sum.Sub(margin).Div(one)
	hi, _ := sum.Add(margin).Div(one)
	return lo, hi
}

// pi returns pi in units of which there are one in 1, by Machin's formula. With 2^n units in 1, from n = 96 on, the arc tangents have less than n/4.6 + 2 and n/15.8 + 2 terms, each of them within 1.4 units. So pi is within 6 n units.
func pi(one num.Num) num.Num {
	a, b := arcTangent(one, 5), arcTangent(one, 239)
	return num.Int(16).Mul(a).Sub(num.Int(4).Mul(b))
}

// arcTangent returns the angle with the tangent 1/m in units of which there are one in 1.
func arcTangent(one num.Num, m int64) num.Num {
	power := quotient(one, num.Int(m))
	sum := power
	for k := int64(1); power.Clear(); k++ {
		power = quotient(power, num.Int(m*m))
		sum = alternate(sum, quotient(power, num.Int(2*k+1)), k)
	}
	return sum
}

// alternate returns sum with the term k of a series of changing signs.
func alternate(sum, term num.Num, k int64) num.Num {
	if k%2 == 1 {
		return sum.Sub(term)
	}
	return sum.Add(term)
}

// quotient returns x/y, rounded down, for a y that is not 0.
func quotient(x, y num.Num) num.Num {
	q, _ := x.Div(y)
	return q.Floor(0)
}
