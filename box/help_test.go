package box_test

import (
	"math"
	"math/big"
	"testing"

	"waveport/api"
	"waveport/box"
	"waveport/num"
)

var inf = math.Inf(1)

const (
	tiny = math.SmallestNonzeroFloat64
	huge = math.MaxFloat64
)

// parse returns the number with a text.
func parse(t testing.TB, s string) num.Num {
	t.Helper()
	x, e := num.Parse(s)
	if e != api.OK {
		t.Fatalf("Parse(%q): %d", s, e)
	}
	return x
}

// exactly returns the exact value of a finite float.
func exactly(f float64) num.Num {
	x, _ := num.Complex(complex(f, 0))
	return x
}

// together returns x + y i.
func together(x, y num.Num) num.Num {
	i, _ := num.New(0, 1, 1)
	return x.Add(y.Mul(i))
}

// span returns the span from lo to hi.
func span(t testing.TB, lo, hi float64) box.Span {
	t.Helper()
	s, e := box.MakeSpan(lo, hi)
	if e != api.OK {
		t.Fatalf("MakeSpan(%v, %v): %d", lo, hi, e)
	}
	return s
}

// made returns the box with two corners.
func made(t testing.TB, lo, hi complex128) box.Box {
	t.Helper()
	b, e := box.Make(lo, hi)
	if e != api.OK {
		t.Fatalf("Make(%v, %v): %d", lo, hi, e)
	}
	return b
}

// sameFloat tells -0 from +0.
func sameFloat(a, b float64) bool {
	return math.Float64bits(a) == math.Float64bits(b)
}

// hasEnds tests the ends of a span.
func hasEnds(t testing.TB, s box.Span, lo, hi float64, what ...any) {
	t.Helper()
	if a, b := s.Ends(); !sameFloat(a, lo) || !sameFloat(b, hi) {
		t.Errorf("%v: %v to %v, want %v to %v", what, a, b, lo, hi)
	}
}

// hasCorners tests the corners of a box.
func hasCorners(t testing.TB, b box.Box, lo, hi complex128, what ...any) {
	t.Helper()
	re, im := b.Parts()
	hasEnds(t, re, real(lo), real(hi), what, "real part")
	hasEnds(t, im, imag(lo), imag(hi), what, "imaginary part")
	if b.Lo() != lo || b.Hi() != hi {
		t.Errorf("%v: corners %v and %v", what, b.Lo(), b.Hi())
	}
}

func sameSpan(s, t box.Span) bool {
	a, b := s.Ends()
	c, d := t.Ends()
	return sameFloat(a, c) && sameFloat(b, d)
}

// limit is a rational number or an infinity, as the tests compute with it.
type limit struct {
	infinite int
	r        *big.Rat
}

func finite(r *big.Rat) limit { return limit{0, r} }

func limitOf(f float64) limit {
	switch {
	case f == inf:
		return limit{1, nil}
	case f == -inf:
		return limit{-1, nil}
	}
	return finite(new(big.Rat).SetFloat64(f))
}

func limits(s box.Span) []limit {
	lo, hi := s.Ends()
	return []limit{limitOf(lo), limitOf(hi)}
}

func (a limit) sign() int {
	if a.infinite != 0 {
		return a.infinite
	}
	return a.r.Sign()
}

// mul has 0 times infinity equal to 0: a bound of products with 0 alone.
func (a limit) mul(b limit) limit {
	if s := a.sign() * b.sign(); s == 0 || a.infinite != 0 || b.infinite != 0 {
		return limit{s, new(big.Rat)}
	}
	return finite(new(big.Rat).Mul(a.r, b.r))
}

// inverse has the inverse of infinity equal to 0.
func (a limit) inverse() limit {
	if a.infinite != 0 {
		return finite(new(big.Rat))
	}
	return finite(new(big.Rat).Inv(a.r))
}

func (a limit) neg() limit {
	if a.infinite != 0 {
		return limit{-a.infinite, nil}
	}
	return finite(new(big.Rat).Neg(a.r))
}

// add reports whether there is a sum.
func (a limit) add(b limit) (limit, bool) {
	switch {
	case a.infinite == 0 && b.infinite == 0:
		return finite(new(big.Rat).Add(a.r, b.r)), true
	case a.infinite == 0:
		return b, true
	case b.infinite == 0:
		return a, true
	}
	return a, a.infinite == b.infinite
}

// around returns the float64s next to a.
func (a limit) around() (lo, hi float64) {
	if a.infinite != 0 {
		f := math.Inf(a.infinite)
		return f, f
	}
	// The second result of Float64 does not tell: it is true for fractions that are too near to 0.
	f, _ := a.r.Float64()
	above := f == inf
	if !math.IsInf(f, 0) {
		switch new(big.Rat).SetFloat64(f).Cmp(a.r) {
		case 0:
			return f + 0, f + 0
		case 1:
			above = true
		}
	}
	if above {
		return math.Nextafter(f, -inf) + 0, f + 0
	}
	return f + 0, math.Nextafter(f, inf) + 0
}

// products returns the products of the candidates.
func products(a, b []limit) []limit {
	var out []limit
	for _, x := range a {
		for _, y := range b {
			out = append(out, x.mul(y))
		}
	}
	return out
}

// sums returns the sums of the candidates.
func sums(a, b []limit) []limit {
	var out []limit
	for _, x := range a {
		for _, y := range b {
			if z, ok := x.add(y); ok {
				out = append(out, z)
			}
		}
	}
	return out
}

func negatives(a []limit) []limit {
	var out []limit
	for _, x := range a {
		out = append(out, x.neg())
	}
	return out
}

func inverses(a []limit) []limit {
	var out []limit
	for _, x := range a {
		out = append(out, x.inverse())
	}
	return out
}

// tightest returns the ends of the tightest span around the candidates.
func tightest(a []limit) (lo, hi float64) {
	lo, hi = inf, -inf
	for _, x := range a {
		l, h := x.around()
		lo, hi = min(lo, l), max(hi, h)
	}
	return lo, hi
}

// dice is a row of numbers that look random and are always the same.
type dice uint64

func (d *dice) next() uint64 {
	*d += 0x9e3779b97f4a7c15
	z := uint64(*d)
	z = (z ^ z>>30) * 0xbf58476d1ce4e5b9
	z = (z ^ z>>27) * 0x94d049bb133111eb
	return z ^ z>>31
}

func (d *dice) below(n int) int { return int(d.next() % uint64(n)) }

func (d *dice) signed(f float64) float64 {
	if d.below(2) == 0 {
		return -f
	}
	return f
}

// float returns a finite float: often one at which something changes.
func (d *dice) float() float64 {
	switch d.below(9) {
	case 0:
		return d.signed(0)
	case 1:
		return float64(d.below(9) - 4)
	case 2:
		edges := []float64{tiny, 3 * tiny, 0x1p-1022, 0x1p-1022 - tiny, 0x1p-537, 0x1p-538, 0x1p511, 0x1p512, huge, 0x1.8p1023, math.Nextafter(1, 0), 1}
		return d.signed(edges[d.below(len(edges))])
	case 3: // any finite bits
		return math.Float64frombits(d.next() &^ (1 << 62))
	case 4:
		return d.signed(float64(d.next()>>12) * tiny)
	case 5:
		return float64(d.below(65)-32) / 8
	case 6:
		return d.signed(math.Ldexp(float64(d.next()>>11), d.below(200)-150))
	}
	return d.signed(float64(d.next()>>11) * 0x1p-52)
}

// ends returns the ends of a span: one in eight of them is infinite, one in eight spans has equal ones.
func (d *dice) ends() (lo, hi float64) {
	lo, hi = d.float(), d.float()
	if lo > hi {
		lo, hi = hi, lo
	}
	switch d.below(8) {
	case 0:
		hi = inf
	case 1:
		lo = -inf
	case 2:
		hi = lo
	case 3:
		hi = lo + math.Abs(lo)*d.width()
	}
	return lo, hi
}

func (d *dice) width() float64 { return math.Ldexp(1, -d.below(60)) }

func (d *dice) span(t testing.TB) box.Span {
	t.Helper()
	lo, hi := d.ends()
	return span(t, lo, hi)
}

func (d *dice) box(t testing.TB) box.Box {
	t.Helper()
	return box.Pair(d.span(t), d.span(t))
}

// element returns an element of a span: an end, one between, or one beyond all floats.
func (d *dice) element(s box.Span) num.Num {
	lo, hi := s.Ends()
	if lo == -inf && hi == inf {
		return d.large().Mul(num.Int(int64(d.below(3) - 1)))
	}
	if hi == inf {
		return exactly(lo).Add(d.large().Mul(num.Int(int64(d.below(2)))))
	}
	if lo == -inf {
		return exactly(hi).Sub(d.large().Mul(num.Int(int64(d.below(2)))))
	}
	part, _ := num.New(int64(d.below(13)), 0, 12)
	return exactly(lo).Add(exactly(hi).Sub(exactly(lo)).Mul(part))
}

// large returns a number from 2^-400 to 2^1600.
func (d *dice) large() num.Num {
	x := exactly(math.Ldexp(1, d.below(1000)-200))
	if d.below(2) == 0 {
		return x.Mul(x)
	}
	return x
}

func (d *dice) elementOf(b box.Box) num.Num {
	re, im := b.Parts()
	return together(d.element(re), d.element(im))
}

// within returns a span that lies in s.
func (d *dice) within(t testing.TB, s box.Span) box.Span {
	t.Helper()
	c, e := box.Around(d.element(s), d.element(s))
	lo, hi := s.Ends()
	a, b := c.Ends()
	if e != api.OK {
		t.Fatalf("Around: %d", e)
	}
	if d.below(4) == 0 {
		a = lo
	}
	if d.below(4) == 0 {
		b = hi
	}
	return span(t, max(a, lo), min(b, hi))
}

func (d *dice) boxWithin(t testing.TB, b box.Box) box.Box {
	t.Helper()
	re, im := b.Parts()
	return box.Pair(d.within(t, re), d.within(t, im))
}
