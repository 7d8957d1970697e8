package box

import (
	"math"
	"math/bits"
)

// wide is what products, quotients and sums of floats are before they are rounded: high and low are the words of a whole number that is multiplied by 2^exponent. Its highest bit is set, unless it is 0.
//
// Products are exact. Of sums and quotients, a low bit that is set also stands for anything below it. This does not matter when they are rounded, as a float64 has 53 bits; they are not added again.
type wide struct {
	negative  bool
	exponent  int
	high, low uint64
}

// Exponents beyond those of all products and sums of finite floats. An infinity counts as a power of two with the first one: it rounds to an infinity, and stays one whatever is added to it. Zero has the second one, so it is less than all others.
const (
	beyond = 1 << 20
	bottom = -1 << 22
)

// Exponents of the last bit of a float64: from that of the highest one of 128 bits down, and the lowest one.
const (
	dropped = 128 - 53
	lastBit = -1074
)

// mantissa returns a whole number with its highest bit set and the exponent of two with which it is the absolute value of x; 0 for 0.
func mantissa(x float64) (uint64, int) {
	if math.IsInf(x, 0) {
		return 1 << 63, beyond
	}
	m, e := math.Frexp(math.Abs(x))
	return uint64(math.Ldexp(m, 64)), e - 64
}

// times returns x y; 0 if one of them is infinite and the other one 0.
func times(x, y float64) wide {
	m, e := mantissa(x)
	n, f := mantissa(y)
	high, low := bits.Mul64(m, n)
	return wide{math.Signbit(x) != math.Signbit(y), e + f, high, low}.normal()
}

// over returns x/y for a y that is not 0; 0 if y is infinite.
func over(x, y float64) wide {
	if math.IsInf(y, 0) {
		return times(0, 0)
	}
	m, e := mantissa(x)
	n, f := mantissa(y)
	q, rest := bits.Div64(m>>1, 0, n) // m has 53 bits and zeros below them
	w := wide{math.Signbit(x) != math.Signbit(y), e - f - 127, q, 0}
	if rest != 0 {
		w.low = 1
	}
	return w.normal()
}

// normal returns w with its highest bit set, or 0.
func (w wide) normal() wide {
	if w.high == 0 {
		w.high, w.low = w.low, 0
		w.exponent -= 64
	}
	if w.high == 0 {
		return wide{exponent: bottom}
	}
	n := bits.LeadingZeros64(w.high)
	w.high = w.high<<n | w.low>>(64-n)
	w.low <<= n
	w.exponent -= n
	return w
}

func (w wide) neg() wide {
	w.negative = !w.negative
	return w
}

// add returns w + v; no two infinities of different signs are added.
func (w wide) add(v wide) wide {
	if w.smaller(v) {
		w, v = v, w
	}
	// A carry needs room. A product has at most 106 bits, so none of w's is lost, and one of v's only if v is so much less than w that few bits of the difference are 0.
	w = w.down(1)
	v = v.down(w.exponent - v.exponent)
	var carry uint64
	if w.negative == v.negative {
		w.low, carry = bits.Add64(w.low, v.low, 0)
		w.high, _ = bits.Add64(w.high, v.high, carry)
	} else {
		w.low, carry = bits.Sub64(w.low, v.low, 0)
		w.high, _ = bits.Sub64(w.high, v.high, carry)
	}
	return w.normal()
}

// smaller reports whether the absolute value of w is less than that of v.
func (w wide) smaller(v wide) bool {
	switch {
	case w.exponent != v.exponent:
		return w.exponent < v.exponent
	case w.high != v.high:
		return w.high < v.high
	}
	return w.low < v.low
}

func (w wide) less(v wide) bool {
	switch {
	case w.negative != v.negative:
		return w.negative
	case w.negative:
		return v.smaller(w)
	}
	return w.smaller(v)
}

// drop returns the words without their n lowest bits, and whether one of these is set.
func (w wide) drop(n int) (high, low uint64, lost bool) {
	switch {
	case n < 64:
		return w.high >> n, w.high<<(64-n) | w.low>>n, w.low<<(64-n) != 0
	case n < 128:
		n -= 64
		return 0, w.high >> n, w.high<<(64-n)|w.low != 0
	}
	return 0, 0, w.high|w.low != 0
}

// down returns w with an exponent that is greater by n.
func (w wide) down(n int) wide {
	high, low, lost := w.drop(n)
	if lost {
		low |= 1
	}
	return wide{w.negative, w.exponent + n, high, low}
}

// round returns the next float64 away from 0 or towards 0; a zero is +0.
func (w wide) round(away bool) float64 {
	last := max(w.exponent+dropped, lastBit)
	_, kept, lost := w.drop(last - w.exponent)
	if lost && away {
		kept++
	}
	f := math.Ldexp(float64(kept), last)
	if !away {
		f = min(f, math.MaxFloat64)
	}
	if w.negative {
		return 0 - f
	}
	return f
}

// reach is the least and the greatest one of some numbers.
type reach struct{ least, greatest wide }

// spread returns the reach of the candidates for its ends.
func spread(candidates ...wide) reach {
	r := reach{candidates[0], candidates[0]}
	for _, c := range candidates[1:] {
		if c.less(r.least) {
			r.least = c
		}
		if r.greatest.less(c) {
			r.greatest = c
		}
	}
	return r
}

// add returns the reach of the sums.
func (r reach) add(q reach) reach {
	return reach{r.least.add(q.least), r.greatest.add(q.greatest)}
}

// neg returns the reach of the negatives.
func (r reach) neg() reach {
	return reach{r.greatest.neg(), r.least.neg()}
}

// span returns the tightest span around r.
func (r reach) span() Span {
	outward := func(w wide, below bool) float64 { return w.round(w.negative == below) }
	return Span{outward(r.least, true), outward(r.greatest, false)}
}
