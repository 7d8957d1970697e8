package num_test

import (
	"math"
	"math/big"
	"testing"

	"waveport/api"
	"waveport/num"
)

func sameFloat(a, b float64) bool { return math.Float64bits(a) == math.Float64bits(b) }

func sameComplex(a, b complex128) bool {
	return sameFloat(real(a), real(b)) && sameFloat(imag(a), imag(b))
}

func sameComplex64(a, b complex64) bool {
	return math.Float32bits(real(a)) == math.Float32bits(real(b)) && math.Float32bits(imag(a)) == math.Float32bits(imag(b))
}

// power returns 2^n.
func power(n int) *big.Rat {
	p := new(big.Int).Lsh(big.NewInt(1), uint(max(n, -n)))
	if n < 0 {
		return new(big.Rat).SetFrac(big.NewInt(1), p)
	}
	return new(big.Rat).SetInt(p)
}

func TestComplex(t *testing.T) {
	for _, c := range []struct {
		z    complex128
		want string
	}{
		{complex(0.1, -2), "3602879701896397/36028797018963968-2i"},
		{complex(0, 0.75), "3/4i"},
		{complex(-1e23, 0), "-99999999999999991611392"},
		{complex(math.Copysign(0, -1), math.Copysign(0, -1)), "0"},
		{complex(math.Copysign(0, -1), 1), "1i"},
		{0x1p70 - 0x1p-3i, "1180591620717411303424-1/8i"},
	} {
		if x, e := num.Complex(c.z); x.Text() != c.want || !x.Same(parse(t, c.want)) || e != api.OK {
			t.Errorf("Complex(%v): %s, %d", c.z, x.Text(), e)
		}
	}
	if x, e := num.Complex64(complex(0.1, -0.375)); x.Text() != "13421773/134217728-3/8i" || e != api.OK {
		t.Errorf("Complex64: %s, %d", x.Text(), e)
	}
	if x, e := num.Complex64(complex(math.SmallestNonzeroFloat32, math.MaxFloat32)); !sameComplex64(x.Near64(), complex(math.SmallestNonzeroFloat32, math.MaxFloat32)) || e != api.OK {
		t.Errorf("Complex64 of extremes: %v, %d", x.Near64(), e)
	}
	inf, nan := math.Inf(1), math.NaN()
	for _, z := range []complex128{complex(inf, 0), complex(-inf, 1), complex(1, inf), complex(0, -inf), complex(nan, 0), complex(1, nan), complex(inf, nan)} {
		if x, e := num.Complex(z); x.Clear() || e != api.ErrArg {
			t.Errorf("Complex(%v): %s, %d", z, x.Text(), e)
		}
		if x, e := num.Complex64(complex64(z)); x.Clear() || e != api.ErrArg {
			t.Errorf("Complex64(%v): %s, %d", z, x.Text(), e)
		}
	}
}

// TestRoundingLimits has the numbers at which rounding changes.
func TestRoundingLimits(t *testing.T) {
	tiny := power(-3000)
	least, greatest := power(-1074), sub(power(1024), power(971))
	limit := sub(power(1024), power(970)) // from here on the nearest one is infinite
	inf := math.Inf(1)
	for i, c := range []struct {
		x                  *big.Rat
		below, near, above float64
	}{
		{rat(0), 0, 0, 0},
		{tiny, 0, 0, 5e-324},
		{power(-1075), 0, 0, 5e-324},
		{add(power(-1075), tiny), 0, 5e-324, 5e-324},
		{least, 5e-324, 5e-324, 5e-324},
		{add(least, tiny), 5e-324, 5e-324, 1e-323},
		{add(least, power(-1075)), 5e-324, 1e-323, 1e-323},
		{sub(power(-1022), power(-1074)), 0x0.fffffffffffffp-1022, 0x0.fffffffffffffp-1022, 0x0.fffffffffffffp-1022},
		{sub(power(-1022), power(-1075)), 0x0.fffffffffffffp-1022, 0x1p-1022, 0x1p-1022},
		{add(power(-1022), tiny), 0x1p-1022, 0x1p-1022, 0x1.0000000000001p-1022},
		{rat(1 << 53), 1 << 53, 1 << 53, 1 << 53},
		{rat(1<<53 + 1), 1 << 53, 1 << 53, 1<<53 + 2},
		{rat(1<<53 + 3), 1<<53 + 2, 1<<53 + 4, 1<<53 + 4},
		{add(rat(1<<53+1), tiny), 1 << 53, 1<<53 + 2, 1<<53 + 2},
		{sub(rat(1<<53+3), tiny), 1<<53 + 2, 1<<53 + 2, 1<<53 + 4},
		{sub(rat(1<<54), rat(1)), 1<<54 - 2, 1 << 54, 1 << 54},
		{sub(rat(1), tiny), 1 - 0x1p-53, 1, 1},
		{add(rat(1), tiny), 1, 1, 1 + 0x1p-52},
		{greatest, math.MaxFloat64, math.MaxFloat64, math.MaxFloat64},
		{add(greatest, tiny), math.MaxFloat64, math.MaxFloat64, inf},
		{sub(limit, tiny), math.MaxFloat64, math.MaxFloat64, inf},
		{limit, math.MaxFloat64, inf, inf},
		{power(1024), math.MaxFloat64, inf, inf},
		{power(3000), math.MaxFloat64, inf, inf},
	} {
		x := fraction(t, c.x)
		i1 := parse(t, "1i")
		if b, n, a := x.Below(), x.Near(), x.Above(); !sameFloat(b, c.below) || !sameComplex(n, complex(c.near, 0)) || !sameFloat(a, c.above) {
			t.Errorf("case %d: %v %v %v", i, b, n, a)
		}
		if n := x.Mul(i1).Near(); !sameComplex(n, complex(0, c.near)) {
			t.Errorf("case %d, times i: %v", i, n)
		}
		x = x.Neg()
		if b, n, a := x.Below(), x.Near(), x.Above(); !sameFloat(b, 0-c.above) || !sameComplex(n, complex(0-c.near, 0)) || !sameFloat(a, 0-c.below) {
			t.Errorf("case %d, negative: %v %v %v", i, b, n, a)
		}
	}
	for _, s := range []string{"0+5i", "0-1e400i", "1/3i"} {
		if x := parse(t, s); !sameFloat(x.Below(), 0) || !sameFloat(x.Above(), 0) {
			t.Errorf("bounds of %s", s)
		}
	}
}

func TestSingleLimits(t *testing.T) {
	tiny := power(-3000)
	limit := sub(power(128), power(103))
	inf := float32(math.Inf(1))
	for i, c := range []struct {
		x    *big.Rat
		near float32
	}{
		{rat(0), 0}, {tiny, 0}, {power(-150), 0}, {add(power(-150), tiny), 0x1p-149}, {power(-149), 0x1p-149}, {add(power(-149), power(-150)), 0x1p-148},
		{sub(power(-126), power(-150)), 0x1p-126}, {sub(power(-126), power(-149)), 0x0.fffffep-126},
		{rat(1<<24 + 1), 1 << 24}, {rat(1<<24 + 3), 1<<24 + 4}, {add(rat(1<<24+1), tiny), 1<<24 + 2}, {sub(rat(1<<25), rat(1)), 1 << 25},
		// The nearest float64 of this is halfway between two float32s.
		{sub(rat(1<<24+1), power(-60)), 1 << 24},
		{sub(limit, tiny), math.MaxFloat32}, {limit, inf}, {power(1030), inf},
	} {
		x := fraction(t, c.x)
		z := x.Sub(x.Mul(parse(t, "1i")))
		if n := z.Near64(); !sameComplex64(n, complex(c.near, 0-c.near)) {
			t.Errorf("case %d: %v", i, n)
		}
	}
}

// floatLike returns a fraction near a float64 of any size.
func (d *dice) floatLike() *big.Rat {
	f := math.Float64frombits(d.next())
	for math.IsInf(f, 0) || math.IsNaN(f) {
		f = math.Float64frombits(d.next())
	}
	r := new(big.Rat).SetFloat64(f)
	switch d.below(4) {
	case 0:
		return r
	case 1: // halfway to a neighbour
		g := new(big.Rat).SetFloat64(math.Nextafter(f, 0))
		return mul(add(r, g), big.NewRat(1, 2))
	}
	return mul(r, new(big.Rat).SetFrac64(int64(d.below(1000)+1), int64(d.below(1000)+1)))
}

// TestFloatsAgainstBig compares roundings with those of math/big, and the bounds with each other (P1.5).
func TestFloatsAgainstBig(t *testing.T) {
	d := dice(7)
	for range 1500 {
		p := pair{d.floatLike(), d.rational(150)}
		x := number(t, p)
		re, exact := p.re.Float64()
		im, _ := p.im.Float64()
		if !sameComplex(x.Near(), complex(re+0, im+0)) {
			t.Errorf("Near(%s): %v", p.text(), x.Near())
		}
		re32, _ := p.re.Float32()
		im32, _ := p.im.Float32()
		if !sameComplex64(x.Near64(), complex(re32+0, im32+0)) {
			t.Errorf("Near64(%s): %v", p.text(), x.Near64())
		}
		below, above := x.Below(), x.Above()
		if exact != (below == above) || below != above && math.Nextafter(below, above) != above {
			t.Errorf("%s: %v, %v", p.text(), below, above)
		}
		if !math.IsInf(below, 0) && new(big.Rat).SetFloat64(below).Cmp(p.re) > 0 || !math.IsInf(above, 0) && new(big.Rat).SetFloat64(above).Cmp(p.re) < 0 {
			t.Errorf("%s is not from %v to %v", p.text(), below, above)
		}
	}
}

// TestFloatAndBack is P1.5 for the values of floats.
func TestFloatAndBack(t *testing.T) {
	d := dice(8)
	list := []complex128{0, 1, -1i, complex(math.MaxFloat64, -math.MaxFloat64), complex(5e-324, -5e-324), complex(0x1p-1022, 0x0.fffffffffffffp-1022)}
	for range 1500 {
		list = append(list, complex(math.Float64frombits(d.next()), math.Float64frombits(d.next())))
	}
	for _, z := range list {
		x, e := num.Complex(z)
		if math.IsNaN(real(z-z)) || math.IsNaN(imag(z-z)) {
			if e != api.ErrArg {
				t.Errorf("Complex(%v): %d", z, e)
			}
			continue
		}
		if e != api.OK || !sameComplex(x.Near(), z) || x.Below() != real(z) || x.Above() != real(z) {
			t.Errorf("%v and back: %v, %d", z, x.Near(), e)
		}
		re, im := new(big.Rat).SetFloat64(real(z)), new(big.Rat).SetFloat64(imag(z))
		if x.Text() != (pair{re, im}).text() || !x.Same(number(t, pair{re, im})) || x.Cmp(number(t, pair{re, im})) != 0 {
			t.Errorf("Complex(%v): %s", z, x.Text())
		}
	}
	for range 1500 {
		z := complex(math.Float32frombits(uint32(d.next())), math.Float32frombits(uint32(d.next())))
		if x, e := num.Complex64(z); e == api.OK && !sameComplex64(x.Near64(), z) {
			t.Errorf("%v and back: %v", z, x.Near64())
		}
	}
}

func TestFloor(t *testing.T) {
	for _, c := range []struct {
		x    string
		k    int
		want string
	}{
		{"-1/2", 0, "-1"}, {"-1/2", 1, "-1/2"}, {"1/2", 0, "0"}, {"0", 7, "0"}, {"-3", 0, "-3"}, {"3-3i", 4, "3-3i"},
		{"5/3-5/3i", 1, "3/2-2i"}, {"-5/3+5/3i", 2, "-7/4+3/2i"}, {"-1/1000i", 3, "-1/8i"}, {"1/3", 32, "1431655765/4294967296"}, {"-1/3", 32, "-715827883/2147483648"},
		{"5/3", -1, "1"}, {"5/3", math.MinInt, "1"}, {"-5/3i", -3, "-2i"},
	} {
		if f := parse(t, c.x).Floor(c.k); f.Text() != c.want {
			t.Errorf("Floor(%s, %d): %s", c.x, c.k, f.Text())
		}
	}
	third := parse(t, "1/3")
	if f := third.Floor(1000); third.Sub(f).Mul(fraction(t, power(1000))).Text() != "1/3" || !third.Floor(1001).Same(f) || !third.Floor(math.MaxInt).Same(f) || third.Floor(999).Same(f) {
		t.Error("Floor of 1/3 to 1000 places")
	}
	d := dice(9)
	for range 300 {
		x, k := number(t, d.pair(200)), d.below(80)
		unit := fraction(t, power(-k))
		f := x.Floor(k)
		for _, rest := range []num.Num{x.Sub(f).Re(), x.Sub(f).Im()} {
			if rest.Cmp(num.Num{}) < 0 || rest.Cmp(unit) >= 0 {
				t.Errorf("Floor(%s, %d): %s", x.Text(), k, f.Text())
			}
		}
		if q, _ := f.Div(unit); value(t, q).re.IsInt() != true || value(t, q).im.IsInt() != true {
			t.Errorf("Floor(%s, %d): %s is not a multiple", x.Text(), k, f.Text())
		}
	}
}
