package num_test

import (
	"math/big"
	"testing"

	"waveport/num"
)

func TestSqrt(t *testing.T) {
	for s, want := range map[string]string{
		"0": "0", "1": "1", "4": "2", "9/4": "3/2", "-1": "1i", "-4": "2i", "-1/9": "1/3i", "2i": "1+1i", "-2i": "1-1i", "1/2i": "1/2+1/2i",
		"-3/4+1i": "1/2+1i", "-3/4-1i": "1/2-1i", "3+4i": "2+1i", "5-12i": "3-2i", "-5+12i": "2+3i", "25": "5", "8i": "2+2i", "4503599761588225": "67108865",
		"1e400": "1e200", "1e-400": "1e-200", "-1e400": "1e200i", "0.0004": "0.02",
	} {
		if r, ok := parse(t, s).Sqrt(); !r.Same(parse(t, want)) || !ok {
			t.Errorf("Sqrt(%s): %s, %t", s, r.Text(), ok)
		}
	}
	for _, s := range []string{
		"2", "3", "-2", "1i", "-1i", "1/2", "4/3", "3/4", "-9/2", "6i", "1+1i", "3+4/3i", "-7/2+12i", "5/2-6i", "24", "26", "4503599761588224", "4503599761588226",
		"7-24/7i", "99999999999999999999999999", "1000000000000000000000000001", "1e399", "1e-1",
	} {
		if r, ok := parse(t, s).Sqrt(); r.Clear() || ok {
			t.Errorf("Sqrt(%s): %s, %t", s, r.Text(), ok)
		}
	}
}

// principal reports whether r is the one of the roots r and -r that Sqrt returns.
func principal(r num.Num) bool {
	if c := r.Re().Cmp(num.Num{}); c != 0 {
		return c > 0
	}
	return r.Side() >= 0
}

// TestRootsOfSquares is P1.6: every square has a root, which squared is the number.
func TestRootsOfSquares(t *testing.T) {
	d := dice(10)
	for i := range 600 {
		bits := 8
		if i%2 == 1 {
			bits = 5 + 4*i
		}
		r := number(t, d.pair(bits))
		x := r.Mul(r)
		want := r
		if !principal(r) {
			want = r.Neg()
		}
		if got, ok := x.Sqrt(); !ok || !got.Same(want) {
			t.Errorf("Sqrt(%s): %s, %t", x.Text(), got.Text(), ok)
		}
		y := number(t, d.pair(bits))
		if got, ok := y.Sqrt(); ok && (!got.Mul(got).Same(y) || !principal(got)) || !ok && got.Clear() {
			t.Errorf("Sqrt(%s): %s, %t", y.Text(), got.Text(), ok)
		}
	}
}

// TestNearSquares has the neighbours of squares of all sizes, which are none.
func TestNearSquares(t *testing.T) {
	d := dice(11)
	for bits := 2; bits < 700; bits++ {
		a := d.integer(bits)
		square := new(big.Int).Mul(a, a)
		x, one := whole(t, square), num.Int(1)
		if r, ok := x.Sqrt(); !ok || !r.Same(whole(t, new(big.Int).Abs(a))) {
			t.Errorf("Sqrt(%s): %s, %t", x.Text(), r.Text(), ok)
		}
		for _, y := range []num.Num{x.Add(one), x.Sub(one), x.Mul(num.Int(2)), x.Neg().Add(one)} {
			if r, ok := y.Sqrt(); ok || r.Clear() {
				t.Errorf("Sqrt(%s): %s, %t", y.Text(), r.Text(), ok)
			}
		}
	}
}
