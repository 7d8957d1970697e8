package box_test

import (
	"math"
	"math/big"
	"strings"
	"testing"

	"waveport/api"
	"waveport/box"
	"waveport/num"
)

// turnBits is far more than what tells on which side of a float64 a cosine in these tests lies.
const turnBits = 900

func bigInt(n int64) *big.Float { return new(big.Float).SetPrec(turnBits).SetInt64(n) }

func bigZero() *big.Float { return new(big.Float).SetPrec(turnBits) }

// bigPi returns pi by the method of Gauss and Legendre.
func bigPi() *big.Float {
	a, b := bigInt(1), bigZero().Sqrt(bigZero().Quo(bigInt(1), bigInt(2)))
	t, p := bigZero().Quo(bigInt(1), bigInt(4)), bigInt(1)
	for range 12 {
		mean := bigZero().Quo(bigZero().Add(a, b), bigInt(2))
		b = bigZero().Sqrt(bigZero().Mul(a, b))
		d := bigZero().Sub(a, mean)
		t.Sub(t, d.Mul(d, d).Mul(d, p))
		p.Mul(p, bigInt(2))
		a = mean
	}
	sum := bigZero().Add(a, b)
	return sum.Quo(sum.Mul(sum, sum), t.Mul(t, bigInt(4)))
}

// bigTurn returns the cosine and the sine of t turns: of a small part of the angle by their series, and of the angle by doubling it.
func bigTurn(t *big.Rat, pi *big.Float) (c, s *big.Float) {
	const doublings = 40
	x := bigZero().SetRat(t)
	x.Mul(x, pi).Mul(x, bigInt(2))
	x.SetMantExp(x, -doublings)
	c, s = bigZero(), bigZero()
	term := bigInt(1)
	for k := int64(0); k < 60; k++ {
		to := c
		if k%2 == 1 {
			to = s
		}
		if k%4 < 2 {
			to.Add(to, term)
		} else {
			to.Sub(to, term)
		}
		term.Mul(term, x).Quo(term, bigInt(k+1))
	}
	for range doublings {
		square := bigZero().Mul(c, c)
		square.Sub(square, bigZero().Mul(s, s))
		s = s.Mul(s, c).Mul(s, bigInt(2))
		c = square
	}
	return c, s
}

// aroundTurn returns the float64s next to x, or the half that it nearly is.
func aroundTurn(x *big.Float) (lo, hi float64) {
	for half := -2.0; half <= 2; half++ {
		d := bigZero().Sub(x, bigZero().SetFloat64(half/2))
		if d.Sign() == 0 || d.MantExp(nil) < -600 {
			return half / 2, half / 2
		}
	}
	return aroundBig(x)
}

// tightestTurn returns the corners of a Turn, from candidates: the ends, and the quarters of a turn between.
func tightestTurn(s, e *big.Rat, pi *big.Float) (lo, hi complex128) {
	lo, hi = complex(inf, inf), complex(-inf, -inf)
	candidate := func(t *big.Rat) {
		c, r := bigTurn(t, pi)
		a, b := aroundTurn(c)
		p, q := aroundTurn(r)
		lo = complex(min(real(lo), a), min(imag(lo), p))
		hi = complex(max(real(hi), b), max(imag(hi), q))
	}
	turns := new(big.Rat).SetInt(new(big.Int).Div(s.Num(), s.Denom())) // those before s do not matter
	s, e = new(big.Rat).Sub(s, turns), new(big.Rat).Sub(e, turns)
	for k := int64(0); k < 8; k++ {
		if t := big.NewRat(k, 4); t.Cmp(s) >= 0 && t.Cmp(e) <= 0 {
			candidate(t)
		}
	}
	candidate(s)
	candidate(new(big.Rat).Sub(e, new(big.Rat).SetInt(new(big.Int).Div(e.Num(), e.Denom()))))
	return lo, hi
}

func turned(t testing.TB, s, e num.Num) box.Box {
	t.Helper()
	b, f := box.Turn(s, e)
	if f != api.OK {
		t.Fatalf("Turn(%s, %s): %d", s.Text(), e.Text(), f)
	}
	return b
}

func TestTurn(t *testing.T) {
	root, side := 0x1.6a09e667f3bccp-1, 0x1.bb67ae8584caap-1
	next := func(f float64) float64 { return math.Nextafter(f, 1) }
	for _, c := range []struct {
		s, e   string
		lo, hi complex128
	}{
		{"0", "0", 1, 1},
		{"1/4", "1/4", 1i, 1i},
		{"1/2", "1/2", -1, -1},
		{"3/4", "3/4", -1i, -1i},
		{"7/2", "7/2", -1, -1},
		{"-17/4", "-17/4", -1i, -1i},
		{"1/6", "1/6", complex(0.5, side), complex(0.5, next(side))},
		{"1/3", "1/3", complex(-0.5, side), complex(-0.5, next(side))},
		{"2/3", "2/3", complex(-0.5, -next(side)), complex(-0.5, -side)},
		{"5/6", "5/6", complex(0.5, -next(side)), complex(0.5, -side)},
		{"1/12", "1/12", complex(side, 0.5), complex(next(side), 0.5)},
		{"7/12", "7/12", complex(-next(side), -0.5), complex(-side, -0.5)},
		{"1/8", "1/8", complex(root, root), complex(next(root), next(root))},
		{"-1/8", "1/8", complex(root, -next(root)), complex(1, next(root))},
		{"3/8", "5/8", complex(-1, -next(root)), complex(-root, next(root))},
		{"1/8", "3/8", complex(-next(root), root), complex(next(root), 1)},
		{"5/8", "7/8", complex(-next(root), -1), complex(next(root), -root)},
		{"0", "1/4", 0, 1 + 1i},
		{"1/4", "1/2", -1, 1i},
		{"1/2", "3/4", -1 - 1i, 0},
		{"3/4", "1", -1i, 1},
		{"-1/4", "1/4", -1i, 1 + 1i},
		{"0", "1/2", -1, 1 + 1i},
		{"0", "3/4", -1 - 1i, 1 + 1i},
		{"0", "1", -1 - 1i, 1 + 1i},
		{"1/3", "4/3", -1 - 1i, 1 + 1i},
		{"1/3", "5", -1 - 1i, 1 + 1i},
		{"-1e38", "1e39", -1 - 1i, 1 + 1i},
		{"1e39", "1e39", 1, 1},
		{"1e-37", "1e-37", complex(math.Nextafter(1, 0), 6.283185307179586e-37), complex(1, 6.2831853071795866e-37)},
	} {
		hasCorners(t, turned(t, parse(t, c.s), parse(t, c.e)), c.lo, c.hi, "Turn", c.s, c.e)
	}
}

func TestTurnErrors(t *testing.T) {
	long := "1/" + strings.Repeat("3", 39) // 41 bytes
	for _, c := range []struct {
		s, e string
		want api.Errno
	}{
		{"1i", "2", api.ErrArg},
		{"0", "1+1i", api.ErrArg},
		{"2", "1i", api.ErrArg},
		{"1", "0", api.ErrOrder},
		{"1/3", long, api.ErrOrder},
		{long, long, api.ErrSize},
		{"0", long, api.ErrSize},
		{"-" + long, "0", api.ErrSize},
		{"-" + long[:40], "0", api.ErrSize},
		{long[:40], "1", api.OK},
		{"0", strings.Repeat("9", 40), api.OK},
		{"0", strings.Repeat("9", 41), api.ErrSize},
		{"-" + strings.Repeat("9", 40), "0", api.ErrSize},
		{"-" + strings.Repeat("9", 39), "0", api.OK},
	} {
		b, e := box.Turn(parse(t, c.s), parse(t, c.e))
		if e != c.want {
			t.Errorf("Turn(%s, %s): %d, want %d", c.s, c.e, e, c.want)
		}
		if e != api.OK {
			hasCorners(t, b, 0, 0, "Turn with an error")
		}
	}
}

// turnArgument returns a number with a text of at most 40 bytes, often near to a quarter or a sixth of a turn.
func (d *dice) turnArgument(t testing.TB) num.Num {
	digits := func(n int) string {
		s := "1"
		for range d.below(n) {
			s += string(rune('0' + d.below(10)))
		}
		return s
	}
	x := parse(t, digits(18)+"/"+digits(18))
	switch d.below(4) {
	case 0:
		x, _ = num.New(int64(d.below(129)-64), 0, 64)
	case 1:
		x, _ = num.New(int64(d.below(49)-24), 0, 12)
	case 2:
		near, _ := num.New(int64(d.below(49)-24), 0, 12)
		x = near.Add(parse(t, "1/"+digits(18)))
	}
	if d.below(2) == 0 {
		x = x.Neg()
	}
	return x
}

func TestTurnAgainstBigFloats(t *testing.T) {
	d, pi := dice(8), bigPi()
	for i := range 250 {
		s, e := d.turnArgument(t), d.turnArgument(t)
		if s.Cmp(e) > 0 {
			s, e = e, s
		}
		if i%2 == 0 {
			e = s
		}
		a, _ := new(big.Rat).SetString(s.Text())
		b, _ := new(big.Rat).SetString(e.Text())
		lo, hi := tightestTurn(a, b, pi)
		hasCorners(t, turned(t, s, e), lo, hi, "Turn", s.Text(), e.Text())
	}
}

// TestTurnLaws is the part of P2.7 about turns.
func TestTurnLaws(t *testing.T) {
	d := dice(9)
	square := made(t, -1-1i, 1+1i)
	for range 60 {
		s, e := d.turnArgument(t), d.turnArgument(t)
		if s.Cmp(e) > 0 {
			s, e = e, s
		}
		b := turned(t, s, e)
		if !b.In(square) || e.Sub(s).Cmp(num.Int(1)) >= 0 && !b.Same(square) {
			t.Errorf("Turn(%s, %s): %v", s.Text(), e.Text(), b)
		}
		if !b.Norm().Has(num.Int(1)) {
			t.Errorf("Turn(%s, %s): the Norm of %v does not have 1", s.Text(), e.Text(), b)
		}
		if !b.Conj().Same(turned(t, e.Neg(), s.Neg())) {
			t.Errorf("Turn(%s, %s): another conjugate", s.Text(), e.Text())
		}
		k := num.Int(int64(d.below(9) - 4))
		if c, f := box.Turn(s.Add(k), e.Add(k)); f == api.OK && !c.Same(b) {
			t.Errorf("Turn(%s, %s) is not the same %s turns on", s.Text(), e.Text(), k.Text())
		}
		u, _ := num.New(int64(d.below(129)-64), 0, 64)
		if c, f := box.Turn(s.Add(u), e.Add(u)); f == api.OK {
			if _, ok := b.Mul(turned(t, u, u)).Meet(c); !ok {
				t.Errorf("Turn(%s, %s) turned by %s does not meet that one", s.Text(), e.Text(), u.Text())
			}
		}
	}
}
