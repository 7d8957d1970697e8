package num_test

import (
	"math"
	"math/big"
	"testing"

	"waveport/api"
	"waveport/num"
)

func TestConstructors(t *testing.T) {
	for _, c := range []struct {
		re, im, den int64
		want        string
		e           api.Errno
	}{
		{1, 2, 1, "1+2i", api.OK},
		{6, -4, 8, "3/4-1/2i", api.OK},
		{2, 3, 6, "1/3+1/2i", api.OK},
		{6, 3, -9, "-2/3-1/3i", api.OK},
		{0, 0, -5, "0", api.OK},
		{0, 0, 0, "0", api.ErrZero},
		{4, 7, 0, "0", api.ErrZero},
		{math.MinInt64, math.MinInt64, math.MinInt64, "1+1i", api.OK},
		{math.MinInt64, math.MaxInt64, -1, "9223372036854775808-9223372036854775807i", api.OK},
		{1, 0, math.MinInt64, "-1/9223372036854775808", api.OK},
	} {
		x, e := num.New(c.re, c.im, c.den)
		if x.Text() != c.want || e != c.e {
			t.Errorf("New(%d, %d, %d): %s, %d", c.re, c.im, c.den, x.Text(), e)
		}
	}
	for n, want := range map[int64]string{0: "0", -1: "-1", 4294967296: "4294967296", math.MinInt64: "-9223372036854775808", math.MaxInt64: "9223372036854775807"} {
		if s := num.Int(n).Text(); s != want {
			t.Errorf("Int(%d): %s", n, s)
		}
	}
}

func TestZeroValue(t *testing.T) {
	var zero num.Num
	one := num.Int(1)
	if zero.Text() != "0" || zero.Clear() || !zero.Real() || zero.Side() != 0 || zero.Near() != 0 {
		t.Error("the zero value is not 0")
	}
	if !zero.Same(num.Int(0)) || !zero.Same(one.Sub(one)) || zero.Cmp(num.Int(0)) != 0 {
		t.Error("the zero value is not the same as 0")
	}
	if !one.Add(zero).Same(one) || !zero.Add(one).Same(one) || one.Mul(zero).Clear() || zero.Norm().Clear() {
		t.Error("arithmetic with the zero value")
	}
	if q, e := zero.Div(one); q.Clear() || e != api.OK {
		t.Error("0/1")
	}
}

func TestArithmetic(t *testing.T) {
	for _, c := range []struct{ x, y, sum, difference, product, quotient string }{
		{"1+2i", "3-1i", "4+1i", "-2+3i", "5+5i", "1/10+7/10i"},
		{"1/2", "1/3", "5/6", "1/6", "1/6", "3/2"},
		{"1/6", "-1/6", "0", "1/3", "-1/36", "-1"},
		{"1i", "1i", "2i", "0", "-1", "1"},
		{"3", "-6", "-3", "9", "-18", "-1/2"},
		{"1/2+1/3i", "2i", "1/2+7/3i", "1/2-5/3i", "-2/3+1i", "1/6-1/4i"},
		{"1/10", "1/15", "1/6", "1/30", "1/150", "3/2"},
		{"4294967295", "1", "4294967296", "4294967294", "4294967295", "4294967295"},
		{"18446744073709551615", "18446744073709551617", "36893488147419103232", "-2", "340282366920938463463374607431768211455", "18446744073709551615/18446744073709551617"},
	} {
		x, y := parse(t, c.x), parse(t, c.y)
		q, e := x.Div(y)
		if x.Add(y).Text() != c.sum || x.Sub(y).Text() != c.difference || x.Mul(y).Text() != c.product || q.Text() != c.quotient || e != api.OK {
			t.Errorf("%s and %s: %s, %s, %s, %s", c.x, c.y, x.Add(y).Text(), x.Sub(y).Text(), x.Mul(y).Text(), q.Text())
		}
	}
	for _, s := range []string{"0", "1", "-2/3+5i"} {
		if q, e := parse(t, s).Div(num.Int(0)); q.Text() != "0" || e != api.ErrZero {
			t.Errorf("%s/0: %s, %d", s, q.Text(), e)
		}
	}
}

func TestPartsAndSigns(t *testing.T) {
	for _, c := range []struct {
		x, neg, conj, re, im, norm string
		real, clear                bool
		side                       int
	}{
		{"3/4-1/2i", "-3/4+1/2i", "3/4+1/2i", "3/4", "-1/2", "13/16", false, true, -1},
		{"1/10+7/10i", "-1/10-7/10i", "1/10-7/10i", "1/10", "7/10", "1/2", false, true, 1},
		{"5i", "-5i", "-5i", "0", "5", "25", false, true, 1},
		{"-2", "2", "-2", "-2", "0", "4", true, true, 0},
		{"0", "0", "0", "0", "0", "0", true, false, 0},
	} {
		x := parse(t, c.x)
		if x.Neg().Text() != c.neg || x.Conj().Text() != c.conj || x.Re().Text() != c.re || x.Im().Text() != c.im || x.Norm().Text() != c.norm {
			t.Errorf("%s: %s, %s, %s, %s, %s", c.x, x.Neg().Text(), x.Conj().Text(), x.Re().Text(), x.Im().Text(), x.Norm().Text())
		}
		if x.Real() != c.real || x.Clear() != c.clear || x.Side() != c.side {
			t.Errorf("%s: %t, %t, %d", c.x, x.Real(), x.Clear(), x.Side())
		}
		if !num.Int(9).Of(x).Same(x) {
			t.Errorf("Of(%s)", c.x)
		}
	}
}

func TestCmpAndSame(t *testing.T) {
	// Each is below those behind it.
	rising := list(t, "-1e40 -2+7i -2+22/3i -1/2-1i -1/2 -1/3 -1/3+1/7i -1i 0 1/3i 1/2i 1/4294967296 1/3 1/2-5i 1/2 1 4294967295 4294967296-1i 4294967296 1e40")
	for i, x := range rising {
		for k, y := range rising {
			want := 0
			if i < k {
				want = -1
			} else if i > k {
				want = 1
			}
			if x.Cmp(y) != want || x.Same(y) != (i == k) {
				t.Errorf("%s, %s: %d, %t", x.Text(), y.Text(), x.Cmp(y), x.Same(y))
			}
		}
	}
	if !parse(t, "4/6+2/4i").Same(parse(t, "2/3+1/2i")) {
		t.Error("Same of a number that is written in two ways")
	}
}

// TestAgainstBig compares the arithmetic with that of math/big, for numbers of all sizes.
func TestAgainstBig(t *testing.T) {
	d := dice(1)
	for i := range 1500 {
		bits := 40
		if i%3 == 1 {
			bits = 300
		} else if i%50 == 2 {
			bits = 9000
		}
		p, q := d.pair(bits), d.pair(bits)
		x, y := number(t, p), number(t, q)
		if x.Text() != p.text() || y.Text() != q.text() {
			t.Fatalf("texts %s, %s of %s, %s", x.Text(), y.Text(), p.text(), q.text())
		}
		check := func(what string, got num.Num, want pair) {
			if got.Text() != want.text() {
				t.Errorf("%s of %s and %s: %s", what, p.text(), q.text(), got.Text())
			}
		}
		check("Add", x.Add(y), p.add(q))
		check("Sub", x.Sub(y), p.sub(q))
		check("Mul", x.Mul(y), p.mul(q))
		check("Norm", x.Norm(), pair{p.norm(), rat(0)})
		if y.Clear() {
			z, _ := x.Div(y)
			check("Div", z, p.div(q))
		}
		want := p.re.Cmp(q.re)
		if want == 0 {
			want = p.im.Cmp(q.im)
		}
		if x.Cmp(y) != want {
			t.Errorf("Cmp of %s and %s", p.text(), q.text())
		}
	}
}

// TestLongProducts multiplies and divides factors of very different lengths.
func TestLongProducts(t *testing.T) {
	d := dice(2)
	for _, bits := range [][2]int{{1270, 1300}, {1300, 2500}, {2560, 2600}, {5000, 1400}, {13000, 13000}, {13000, 3000}, {13000, 64}, {9000, 4600}, {40000, 40000}} {
		for range 4 {
			a, b := d.integer(bits[0]), d.integer(bits[1])
			c := new(big.Int).Mul(a, b)
			x, y, z := whole(t, a), whole(t, b), whole(t, c)
			if !x.Mul(y).Same(z) {
				t.Errorf("a product of %d and %d bits", bits[0], bits[1])
			}
			if q, e := z.Div(x); !q.Same(y) || e != api.OK {
				t.Errorf("a quotient of %d and %d bits", bits[0]+bits[1], bits[0])
			}
		}
	}
}

// TestLowestTerms cancels common factors of all lengths.
func TestLowestTerms(t *testing.T) {
	d := dice(3)
	for i := range 400 {
		bits := 20 + 10*i
		g, a, b := d.integer(d.below(bits)+1), d.integer(d.below(bits)+1), d.integer(d.below(bits)+1)
		want := new(big.Rat).SetFrac(a, b)
		q, e := whole(t, new(big.Int).Mul(a, g)).Div(whole(t, new(big.Int).Mul(b, g)))
		if q.Text() != want.RatString() || e != api.OK {
			t.Fatalf("%d bits: %s, not %s", bits, q.Text(), want.RatString())
		}
	}
	// Neighbours in the row of Fibonacci need the most steps, and have the factor 1.
	x, y := num.Int(1), num.Int(1)
	for range 4000 {
		x, y = y, x.Add(y)
	}
	q, _ := x.Div(y)
	if back, _ := num.Int(1).Div(q); !back.Mul(x).Same(y) || q.Text() != x.Text()+"/"+y.Text() {
		t.Error("a fraction of neighbours in the row of Fibonacci")
	}
}

// TestFieldLaws is P1.2.
func TestFieldLaws(t *testing.T) {
	d := dice(4)
	for range 300 {
		x, y, z := number(t, d.pair(60)), number(t, d.pair(60)), d.small()
		laws := []bool{
			x.Add(y).Same(y.Add(x)), x.Mul(y).Same(y.Mul(x)),
			x.Add(y).Add(z).Same(x.Add(y.Add(z))), x.Mul(y).Mul(z).Same(x.Mul(y.Mul(z))),
			x.Mul(y.Add(z)).Same(x.Mul(y).Add(x.Mul(z))),
			x.Sub(y).Add(y).Same(x), x.Add(x.Neg()).Same(num.Num{}),
			x.Add(y).Conj().Same(x.Conj().Add(y.Conj())), x.Mul(y).Conj().Same(x.Conj().Mul(y.Conj())),
			x.Norm().Same(x.Mul(x.Conj())), x.Mul(y).Norm().Same(x.Norm().Mul(y.Norm())),
			x.Re().Add(x.Im().Mul(parse(t, "1i"))).Same(x), x.Re().Real(), x.Im().Real(),
		}
		if y.Clear() {
			q, e := x.Div(y)
			laws = append(laws, e == api.OK && q.Mul(y).Same(x))
		}
		for i, ok := range laws {
			if !ok {
				t.Errorf("law %d for %s, %s, %s", i, x.Text(), y.Text(), z.Text())
			}
		}
	}
}

// TestOrderLaws is P1.3.
func TestOrderLaws(t *testing.T) {
	d := dice(5)
	for range 2000 {
		x, y, z := d.small(), d.small(), d.small()
		if x.Cmp(y) != -y.Cmp(x) || x.Cmp(y) <= 0 && y.Cmp(z) <= 0 && x.Cmp(z) > 0 || (x.Cmp(y) == 0) != x.Same(y) {
			t.Errorf("order of %s, %s, %s", x.Text(), y.Text(), z.Text())
		}
		if x.Cmp(y) != x.Add(z).Cmp(y.Add(z)) {
			t.Errorf("order of %s, %s, moved by %s", x.Text(), y.Text(), z.Text())
		}
	}
}
