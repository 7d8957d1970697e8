package box_test

import (
	"math"
	"testing"

	"waveport/api"
	"waveport/box"
	"waveport/num"
)

func TestMakeSpan(t *testing.T) {
	nan, minus := math.NaN(), math.Copysign(0, -1)
	for _, c := range []struct {
		lo, hi         float64
		wantLo, wantHi float64
		e              api.Errno
	}{
		{1, 2, 1, 2, api.OK},
		{3, 3, 3, 3, api.OK},
		{minus, minus, 0, 0, api.OK},
		{0, minus, 0, 0, api.OK},
		{-tiny, tiny, -tiny, tiny, api.OK},
		{-inf, inf, -inf, inf, api.OK},
		{-inf, -huge, -inf, -huge, api.OK},
		{huge, inf, huge, inf, api.OK},
		{2, 1, 0, 0, api.ErrOrder},
		{tiny, 0, 0, 0, api.ErrOrder},
		{nan, 1, 0, 0, api.ErrArg},
		{1, nan, 0, 0, api.ErrArg},
		{inf, inf, 0, 0, api.ErrArg},
		{inf, 1, 0, 0, api.ErrArg},
		{-inf, -inf, 0, 0, api.ErrArg},
		{1, -inf, 0, 0, api.ErrArg},
		{inf, nan, 0, 0, api.ErrArg},
	} {
		s, e := box.MakeSpan(c.lo, c.hi)
		if e != c.e {
			t.Errorf("MakeSpan(%v, %v): %d, want %d", c.lo, c.hi, e, c.e)
		}
		hasEnds(t, s, c.wantLo, c.wantHi, "MakeSpan", c.lo, c.hi)
	}
	hasEnds(t, box.Span{}, 0, 0, "zero value")
}

func TestAround(t *testing.T) {
	third := 0x1.5555555555555p-2
	for _, c := range []struct {
		x, y   string
		lo, hi float64
		e      api.Errno
	}{
		{"1/3", "1/3", third, math.Nextafter(third, 1), api.OK},
		{"2", "-1/3", -math.Nextafter(third, 1), 2, api.OK},
		{"-1/3", "2", -math.Nextafter(third, 1), 2, api.OK},
		{"1e400", "1e400", huge, inf, api.OK},
		{"-1e400", "1e400", -inf, inf, api.OK},
		{"-1e400", "-1e400", -inf, -huge, api.OK},
		{"1e-400", "1e-400", 0, tiny, api.OK},
		{"-1e-400", "0", -tiny, 0, api.OK},
		{"1i", "0", 0, 0, api.ErrArg},
		{"0", "1+1i", 0, 0, api.ErrArg},
	} {
		s, e := box.Around(parse(t, c.x), parse(t, c.y))
		if e != c.e {
			t.Errorf("Around(%s, %s): %d, want %d", c.x, c.y, e, c.e)
		}
		hasEnds(t, s, c.lo, c.hi, "Around", c.x, c.y)
	}
}

func TestSpanHas(t *testing.T) {
	for _, c := range []struct {
		lo, hi float64
		x      string
		want   bool
	}{
		{0, 1, "0", true},
		{0, 1, "1", true},
		{0, 1, "1/3", true},
		{0, 1, "-1e-400", false},
		{0, 1, "1/2+1e-400i", false},
		{0, tiny, "1e-400", true},
		{tiny, 1, "1e-400", false},
		{0, huge, "1e400", false},
		{0, inf, "1e400", true},
		{-huge, 0, "-1e400", false},
		{-inf, 0, "-1e400", true},
		{-inf, 0, "1e-400", false},
		{0.1, 0.1, "1/10", false},
		{0.5, 0.5, "1/2", true},
	} {
		if got := span(t, c.lo, c.hi).Has(parse(t, c.x)); got != c.want {
			t.Errorf("%v to %v has %s: %v", c.lo, c.hi, c.x, got)
		}
	}
}

func TestSpanIn(t *testing.T) {
	for _, c := range []struct {
		a, b, c, d float64
		want       bool
	}{
		{1, 2, 1, 2, true},
		{1, 2, 0, 3, true},
		{1, 2, 1.5, 3, false},
		{1, 2, 0, 1.5, false},
		{1, inf, 0, inf, true},
		{1, inf, 0, huge, false},
		{-inf, 1, -huge, 1, false},
		{-inf, 1, -inf, 1, true},
	} {
		if got := span(t, c.a, c.b).In(span(t, c.c, c.d)); got != c.want {
			t.Errorf("%v: %v", c, got)
		}
	}
}

func TestSpanBelow(t *testing.T) {
	for _, c := range []struct {
		a, b, c, d float64
		want       box.Sure
	}{
		{1, 2, 3, 4, box.Yes},
		{1, 2, 2, 4, box.Unsure},
		{1, 2, 0, 4, box.Unsure},
		{2, 3, 1, 2, box.No},
		{2, 3, 1, 2.5, box.Unsure},
		{1, 1, 1, 1, box.No},
		{0, tiny, 3 * tiny, 1, box.Yes},
		{-inf, 1, 2, inf, box.Yes},
		{1, inf, 2, inf, box.Unsure},
		{2, inf, -inf, 2, box.No},
		{-inf, inf, -inf, inf, box.Unsure},
		{huge, inf, huge, inf, box.Unsure},
	} {
		if got := span(t, c.a, c.b).Below(span(t, c.c, c.d)); got != c.want {
			t.Errorf("%v: %d", c, got)
		}
	}
	if box.Unsure != 0 || box.Yes != 1 || box.No != 2 {
		t.Error("the answers have other numbers")
	}
}

// spanCase is two spans, and the ends of a result of them.
type spanCase struct{ a, b, c, d, lo, hi float64 }

func testSpanCases(t *testing.T, what string, of func(s, u box.Span) box.Span, cases []spanCase) {
	t.Helper()
	for _, c := range cases {
		hasEnds(t, of(span(t, c.a, c.b), span(t, c.c, c.d)), c.lo, c.hi, what, c)
	}
}

func TestSpanSums(t *testing.T) {
	testSpanCases(t, "Add", box.Span.Add, []spanCase{
		{1, 2, -3, 5, -2, 7},
		{1, 1, tiny, tiny, 1, math.Nextafter(1, 2)},
		{1, 1, -tiny, -tiny, math.Nextafter(1, 0), 1},
		{huge, huge, huge, huge, huge, inf},
		{-huge, -huge, -huge, -huge, -inf, -huge},
		{huge, huge, tiny, tiny, huge, inf},
		{huge, huge, -tiny, -tiny, math.Nextafter(huge, 0), huge},
		{-inf, 1, 2, inf, -inf, inf},
		{-inf, 1, -inf, 1, -inf, 2},
		{1, inf, 2, inf, 3, inf},
		{-1, -1, 1, 1, 0, 0},
		{0x1p-1022, 0x1p-1022, -tiny, -tiny, 0x1p-1022 - tiny, 0x1p-1022 - tiny},
		{0.1, 0.1, 0.2, 0.2, 0.3, math.Nextafter(0.3, 1)},
	})
	testSpanCases(t, "Sub", box.Span.Sub, []spanCase{
		{1, 2, -3, 5, -4, 5},
		{1, 2, 1, 2, -1, 1},
		{3, 3, 3, 3, 0, 0},
		{1, 1, -tiny, tiny, math.Nextafter(1, 0), math.Nextafter(1, 2)},
		{1, inf, 1, inf, -inf, inf},
		{1, inf, -inf, 1, 0, inf},
		{huge, huge, -huge, 0, huge, inf},
	})
}

func TestSpanProducts(t *testing.T) {
	testSpanCases(t, "Mul", box.Span.Mul, []spanCase{
		{1, 2, -3, inf, -6, inf},
		{0, 0, -3, inf, 0, 0},
		{0, 0, -inf, inf, 0, 0},
		{0, 2, 1, inf, 0, inf},
		{-2, 0, 1, inf, -inf, 0},
		{-inf, -1, -inf, -1, 1, inf},
		{-inf, inf, 2, 2, -inf, inf},
		{-1, 2, -3, 5, -6, 10},
		{-4, 2, -3, 5, -20, 12},
		{-2, -1, -5, -3, 3, 10},
		{tiny, tiny, tiny, tiny, 0, tiny},
		{tiny, tiny, -tiny, -tiny, -tiny, 0},
		{tiny, tiny, 0.5, 0.5, 0, tiny},
		{tiny, tiny, 0x1p1000, 0x1p1000, 0x1p-74, 0x1p-74},
		{huge, huge, huge, huge, huge, inf},
		{huge, huge, -huge, -huge, -inf, -huge},
		{huge, huge, 1, 1, huge, huge},
	})
	r := 0x1.fffffffffffffp0 // its square ends in a 1 far behind
	testSpanCases(t, "Mul", box.Span.Mul, []spanCase{{r, r, r, r, 0x1.ffffffffffffep1, 0x1.fffffffffffffp1}})
	for _, c := range []spanCase{
		{a: -3, b: 2, lo: 0, hi: 9},
		{a: 2, b: 3, lo: 4, hi: 9},
		{a: -3, b: -2, lo: 4, hi: 9},
		{a: 0, b: 0, lo: 0, hi: 0},
		{a: -inf, b: 2, lo: 0, hi: inf},
		{a: -inf, b: -2, lo: 4, hi: inf},
		{a: -tiny, b: 0, lo: 0, hi: tiny},
		{a: tiny, b: tiny, lo: 0, hi: tiny},
		{a: huge, b: huge, lo: huge, hi: inf},
	} {
		hasEnds(t, span(t, c.a, c.b).Square(), c.lo, c.hi, "Square", c.a, c.b)
	}
}

func TestSpanDiv(t *testing.T) {
	third := 0x1.5555555555555p-2
	testSpanCases(t, "Div", func(s, u box.Span) box.Span {
		q, e := s.Div(u)
		if e != api.OK {
			t.Errorf("Div: %d", e)
		}
		return q
	}, []spanCase{
		{1, inf, 1, inf, 0, inf},
		{-inf, -1, 1, inf, -inf, 0},
		{5, 6, 2, inf, 0, 3},
		{-6, -5, 2, inf, -3, 0},
		{-inf, inf, -inf, -1, -inf, inf},
		{1, 1, 3, 3, third, math.Nextafter(third, 1)},
		{1, 1, -3, -3, -math.Nextafter(third, 1), -third},
		{-4, 2, 1, 2, -4, 2},
		{0, 0, 1, inf, 0, 0},
		{6, 6, -3, -2, -3, -2},
		{huge, huge, tiny, tiny, huge, inf},
		{tiny, tiny, huge, huge, 0, tiny},
		{-tiny, -tiny, huge, huge, -tiny, 0},
		{tiny, tiny, tiny, tiny, 1, 1},
		{tiny, tiny, 2, 2, 0, tiny},
	})
	for _, c := range []struct{ lo, hi float64 }{{0, 1}, {-1, 0}, {0, 0}, {-1, 1}, {-inf, inf}} {
		q, e := span(t, 1, 2).Div(span(t, c.lo, c.hi))
		if e != api.ErrZero {
			t.Errorf("Div by %v to %v: %d", c.lo, c.hi, e)
		}
		hasEnds(t, q, 0, 0, "Div with an error")
	}
}

func TestSpanSqrt(t *testing.T) {
	two := 0x1.6a09e667f3bccp0
	for _, c := range []struct{ a, b, lo, hi float64 }{
		{4, 9, 2, 3},
		{0, 0, 0, 0},
		{2, 2, two, math.Nextafter(two, 2)},
		{0, inf, 0, inf},
		{16, inf, 4, inf},
		{tiny, tiny, 0x1p-537, 0x1p-537},
		{2 * tiny, 2 * tiny, two * 0x1p-537, math.Nextafter(two, 2) * 0x1p-537},
		{huge, huge, math.Nextafter(0x1p512, 0), 0x1p512},
		{math.Nextafter(1, 2), math.Nextafter(1, 2), 1, math.Nextafter(1, 2)},
	} {
		s, e := span(t, c.a, c.b).Sqrt()
		if e != api.OK {
			t.Errorf("Sqrt of %v to %v: %d", c.a, c.b, e)
		}
		hasEnds(t, s, c.lo, c.hi, "Sqrt", c.a, c.b)
	}
	for _, lo := range []float64{-1, -tiny, -inf} {
		s, e := span(t, lo, 4).Sqrt()
		if e != api.ErrArg {
			t.Errorf("Sqrt from %v: %d", lo, e)
		}
		hasEnds(t, s, 0, 0, "Sqrt with an error")
	}
}

// TestSpansAgainstRationals compares the operations with those on fractions of any size.
func TestSpansAgainstRationals(t *testing.T) {
	d := dice(1)
	for range 5000 {
		s, u := d.span(t), d.span(t)
		lo, hi := tightest(sums(limits(s), limits(u)))
		hasEnds(t, s.Add(u), lo, hi, "Add", s, u)
		lo, hi = tightest(sums(limits(s), negatives(limits(u))))
		hasEnds(t, s.Sub(u), lo, hi, "Sub", s, u)
		lo, hi = tightest(products(limits(s), limits(u)))
		hasEnds(t, s.Mul(u), lo, hi, "Mul", s, u)
		lo, hi = tightest(squares(s))
		hasEnds(t, s.Square(), lo, hi, "Square", s)
		q, e := s.Div(u)
		if zero := u.Has(num.Num{}); zero != (e == api.ErrZero) || !zero && e != api.OK {
			t.Errorf("Div by %v: %d", u, e)
		} else if !zero {
			lo, hi = tightest(products(limits(s), inverses(limits(u))))
			hasEnds(t, q, lo, hi, "Div", s, u)
		}
		r, e := s.Square().Sqrt()
		if e != api.OK {
			t.Errorf("Sqrt: %d", e)
		}
		lo, hi = tightestRoot(s.Square())
		hasEnds(t, r, lo, hi, "Sqrt", s.Square())
	}
}

// squares returns candidates for the ends of the squares.
func squares(s box.Span) []limit {
	var out []limit
	for _, x := range limits(s) {
		out = append(out, x.mul(x))
	}
	if s.Has(num.Num{}) {
		out = append(out, limitOf(0))
	}
	return out
}
