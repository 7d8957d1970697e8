package num

import (
	"math"
	"math/bits"

	"waveport/api"
)

// maxPlaces is the greatest number of binary places of Floor.
const maxPlaces = 1000

// Ways of rounding a magnitude.
const (
	inward  = iota // to the next one towards 0
	outward        // to the next one away from 0
	nearest        // to the nearest one; of two, to the one with an even last bit
)

// format is a binary format of floats.
type format struct {
	digits int // bits of a mantissa
	low    int // exponent of the last bit of the least magnitudes
	high   int // exponent of the last bit of the greatest finite ones
}

func double() format {
	return format{53, -1074, 971}
}

func single() format {
	return format{24, -149, 104}
}

// Complex returns the exact value of z.
func Complex(z complex128) (Num, api.Errno) {
	re, m, ok := split(real(z))
	im, n, fine := split(imag(z))
	if !ok || !fine {
		return Num{}, api.ErrArg
	}
	low := min(m, n, 0)
	x := Num{re: re.up(m - low), im: im.up(n - low)}
	if low < 0 {
		x.den = natural{1}.up(-low)
	}
	return x, api.OK
}

// Complex64 returns the exact value of z.
func Complex64(z complex64) (Num, api.Errno) {
	return Complex(complex128(z))
}

// split returns an odd integer and the power of two by which it has to be multiplied to be f, and whether f is finite; 0 and 0 for 0.
func split(f float64) (integer, int, bool) {
	b := math.Float64bits(f)
	exponent := int(b >> 52 & 2047)
	mantissa := b & (1<<52 - 1)
	if exponent == 2047 {
		return integer{}, 0, false
	}
	if exponent > 0 { // then there is a highest bit that is not written
		mantissa |= 1 << 52
		exponent--
	}
	if mantissa == 0 {
		return integer{}, 0, true
	}
	twos := bits.TrailingZeros64(mantissa)
	return integer{fromUint(mantissa >> twos), f < 0}, exponent - 1074 + twos, true
}

// Near returns the complex128 whose parts are nearest to those of x.
func (x Num) Near() complex128 {
	re := double().round(x.re.size, x.denominator(), nearest)
	im := double().round(x.im.size, x.denominator(), nearest)
	return complex(toFloat(re, x.re.negative), toFloat(im, x.im.negative))
}

// Near64 returns the complex64 whose parts are nearest to those of x.
func (x Num) Near64() complex64 {
	re := single().round(x.re.size, x.denominator(), nearest)
	im := single().round(x.im.size, x.denominator(), nearest)
	return complex(toFloat32(re, x.re.negative), toFloat32(im, x.im.negative))
}

// Below returns the greatest float64 that is not above the real part of x.
func (x Num) Below() float64 {
	return x.rounded(inward, outward)
}

// Above returns the least float64 that is not below the real part of x.
func (x Num) Above() float64 {
	return x.rounded(outward, inward)
}

// rounded returns the real part of x, rounded in one way if it is above 0 and in another one if it is below.
func (x Num) rounded(above, below int) float64 {
	way := above
	if x.re.negative {
		way = below
	}
	return toFloat(double().round(x.re.size, x.denominator(), way), x.re.negative)
}

// toFloat returns the float64 with the bits of a magnitude and a sign, +0 for 0.
func toFloat(magnitude uint64, negative bool) float64 {
	if negative && magnitude != 0 {
		magnitude |= 1 << 63
	}
	return math.Float64frombits(magnitude)
}

// toFloat32 returns the float32 with the bits of a magnitude and a sign, +0 for 0.
func toFloat32(magnitude uint64, negative bool) float32 {
	if negative && magnitude != 0 {
		magnitude |= 1 << 31
	}
	return math.Float32frombits(uint32(magnitude))
}

// round returns the bits of p/q, rounded, without a sign. A magnitude m 2^u is written with its exponent u counted from the lowest one, and m without its highest bit: this is u - low times 2^(digits - 1), plus m, also if m is short (u is low then) or was rounded up to a power of two.
func (f format) round(p, q natural, way int) uint64 {
	if len(p) == 0 {
		return 0
	}
	shift := f.digits + 2 - (p.length() - q.length())
	m, inexact := scaledQuotient(p, q, shift)
	u := max(bits.Len64(m)-shift-f.digits, f.low)
	if u > f.high {
		return f.overflow(way)
	}
	drop := min(u+shift, 63)
	kept, rest := m>>drop, m&(1<<drop-1)
	if roundsUp(kept, rest, 1<<(drop-1), inexact, way) {
		kept++
	}
	return uint64(u-f.low)<<(f.digits-1) + kept
}

// scaledQuotient returns p/q times 2^shift, rounded down, which has to fit, and whether it was not a whole number.
func scaledQuotient(p, q natural, shift int) (uint64, bool) {
	if shift >= 0 {
		p = p.up(shift)
	} else {
		q = q.up(-shift)
	}
	quotient, rest := p.div(q)
	m, _ := quotient.small()
	return m, len(rest) > 0
}

// overflow returns the bits of what is above the greatest finite magnitude: those of that or of infinity.
func (f format) overflow(way int) uint64 {
	infinity := uint64(f.high-f.low+2) << (f.digits - 1)
	if way == inward {
		return infinity - 1
	}
	return infinity
}

// roundsUp reports whether a magnitude is rounded away from 0, where half is the last kept bit's half, and inexact says that there is something behind rest.
func roundsUp(kept, rest, half uint64, inexact bool, way int) bool {
	switch way {
	case outward:
		return rest > 0 || inexact
	case nearest:
		return rest > half || rest == half && (inexact || kept&1 == 1)
	}
	return false
}

// Floor returns the number whose parts are the greatest multiples of 2^-k that are not above those of x.
func (x Num) Floor(k int) Num {
	k = max(0, min(k, maxPlaces))
	re, im := x.re.up(k).floor(x.denominator()), x.im.up(k).floor(x.denominator())
	return lowest(re, im, natural{1}.up(k))
}
