package calibrate_test

import (
	"strconv"
	"testing"

	"waveport/api"
	"waveport/calibrate"
	"waveport/num"
)

// sixOf returns the terms of a direction with a text: Directivity, Match, Tracking, Leakage, LoadMatch, Transfer.
func sixOf(t *testing.T, s string) six {
	t.Helper()
	l := list(t, s)
	return six{One: terms{Directivity: l[0], Match: l[1], Tracking: l[2]}, Leakage: l[3], LoadMatch: l[4], Transfer: l[5]}
}

// six returns the terms of both directions.
func (d *dice) six() [2]six {
	var x [2]six
	for i := range x {
		x[i] = six{One: d.terms(), Leakage: d.small(), LoadMatch: d.small(), Transfer: d.clear()}
	}
	return x
}

// shown returns the raw matrix of a two-port by the equations of the waves in both directions.
func shown(x [2]six, s square) (square, api.Errno) {
	zero, one := num.Int(0), num.Int(1)
	var raw square
	for k := range x {
		l := 1 - k
		from, to := x[k].One.Match, x[k].LoadMatch
		// a_k = 1 + Match b_k, a_l = LoadMatch b_l, b = s a.
		waves, e := num.Solve([][]num.Num{
			{one, zero, from.Neg(), zero}, {zero, one, zero, to.Neg()},
			{s[k][k].Neg(), s[k][l].Neg(), one, zero}, {s[l][k].Neg(), s[l][l].Neg(), zero, one},
		}, []num.Num{one, zero, zero, zero})
		if e != api.OK {
			return square{}, e
		}
		raw[k][k] = x[k].One.Directivity.Add(x[k].One.Tracking.Mul(waves[2]))
		raw[l][k] = x[k].Leakage.Add(x[k].Transfer.Mul(waves[3]))
	}
	return raw, api.OK
}

func squareText(m square) string { return matrixText(rows(m)) }

func TestTwelveTerms(t *testing.T) {
	x := [2]six{sixOf(t, "0 1/2 1 1/10 0 1"), sixOf(t, "0 1/2 1 1/10 0 1")}
	m, e := calibrate.RawTwelve(x, two(t, "1/2 1/4;1/4 0"))
	if squareText(m) != "2/3 7/20;13/30 0" || e != api.OK {
		t.Errorf("RawTwelve: %s, %d", squareText(m), e)
	}
	m, e = calibrate.CorrectTwelve(x, m)
	if squareText(m) != "1/2 1/4;1/4 0" || e != api.OK {
		t.Errorf("CorrectTwelve: %s, %d", squareText(m), e)
	}
	plain := [2]six{sixOf(t, "0 0 1 0 0 1"), sixOf(t, "0 0 1 0 0 1")}
	m, e = calibrate.RawTwelve(plain, two(t, "1 2;3 4i"))
	if squareText(m) != "1 2;3 4i" || e != api.OK {
		t.Errorf("RawTwelve of an ideal analyzer: %s, %d", squareText(m), e)
	}
	y, e := calibrate.Twelve([2]terms{ideal, termsOf(t, "1 1/2 3")}, two(t, "1/3 5;2 4"), [2]num.Num(list(t, "1/4 1")))
	// At port 1, g is 3/(3 + 3/2).
	if sixText(y) != "0 0 1 1/4 1/3 7/4;1 1/2 3 1 2/3 8/3" || e != api.OK {
		t.Errorf("Twelve: %s, %d", sixText(y), e)
	}
}

func TestTwelveErrors(t *testing.T) {
	good := "0 0 1 0 0 1"
	for i, c := range []struct {
		x            [2]string
		m            string
		raw, correct api.Errno
	}{
		{[2]string{good, good}, "1 2;3 4", api.OK, api.OK},
		{[2]string{"0 1 1 0 0 1", good}, "1 1;1 0", api.ErrZero, api.OK}, // 1 - s00 is 0
		{[2]string{good, "0 1 1 0 0 1"}, "0 1;1 1", api.ErrZero, api.OK}, // 1 - s11 is 0
		{[2]string{"0 0 1 0 1 1", good}, "0 1;1 1", api.ErrZero, api.OK}, // and at the other port
		{[2]string{good, "0 0 1 0 1 1"}, "1 1;1 0", api.ErrZero, api.OK},
		{[2]string{"0 0 0 0 0 1", good}, "1 2;3 4", api.OK, api.ErrZero}, // the divisors of p, q, u and v
		{[2]string{"0 0 1 0 0 0", good}, "1 2;3 4", api.OK, api.ErrZero},
		{[2]string{good, "0 0 0 0 0 1"}, "1 2;3 4", api.OK, api.ErrZero},
		{[2]string{good, "0 0 1 0 0 0"}, "1 2;3 4", api.OK, api.ErrZero},
		{[2]string{"0 1 1 0 0 1", good}, "-1 1;1 0", api.OK, api.ErrZero},         // g is 0
		{[2]string{"0 0 1 0 1 1", "0 0 1 0 1 1"}, "0 1;1 0", api.OK, api.ErrZero}, // 1 - w l k is 0
	} {
		x := [2]six{sixOf(t, c.x[0]), sixOf(t, c.x[1])}
		m, e := calibrate.RawTwelve(x, two(t, c.m))
		code(t, "RawTwelve, case "+strconv.Itoa(i), noTwo(m), e, c.raw)
		m, e = calibrate.CorrectTwelve(x, two(t, c.m))
		code(t, "CorrectTwelve, case "+strconv.Itoa(i), noTwo(m), e, c.correct)
	}
	for i, c := range []struct {
		ports [2]string
		thru  string
		want  api.Errno
	}{
		{[2]string{"0 0 1", "0 0 1"}, "0 0;0 0", api.OK},
		{[2]string{"0 0 0", "0 0 1"}, "0 1;1 0", api.ErrZero}, {[2]string{"0 0 1", "0 0 0"}, "0 1;1 0", api.ErrZero},
		{[2]string{"0 1 1", "0 0 1"}, "-1 1;1 0", api.ErrZero}, {[2]string{"0 0 1", "2 1 1"}, "0 1;1 1", api.ErrZero},
	} {
		x, e := calibrate.Twelve([2]terms{termsOf(t, c.ports[0]), termsOf(t, c.ports[1])}, two(t, c.thru), [2]num.Num{num.Int(1), num.Int(1)})
		code(t, "Twelve, case "+strconv.Itoa(i), sixText(x) == sixText([2]six{}), e, c.want)
	}
}

// TestTwelveReturn is P6.6, and compares RawTwelve with the equations of the waves.
func TestTwelveReturn(t *testing.T) {
	d := dice(18)
	fine, back, thrus := 0, 0, 0
	for range 300 {
		x, element := d.six(), d.small
		if d.below(4) == 0 {
			element = d.sign
		}
		s := d.two(element)
		m, e := calibrate.RawTwelve(x, s)
		want, f := shown(x, s)
		if (e != api.OK) != (f != api.OK) || squareText(m) != squareText(want) {
			t.Errorf("RawTwelve: %s, %d, want %s, %d", squareText(m), e, squareText(want), f)
		}
		if e == api.OK {
			y, e := calibrate.CorrectTwelve(x, m)
			if e == api.OK {
				fine++
			}
			if e == api.OK && squareText(y) != squareText(s) {
				t.Errorf("CorrectTwelve of RawTwelve: %s, want %s", squareText(y), squareText(s))
			}
		}
		raw := d.two(element)
		if s, e = calibrate.CorrectTwelve(x, raw); e == api.OK {
			if m, e = calibrate.RawTwelve(x, s); e == api.OK {
				back++
				if squareText(m) != squareText(raw) {
					t.Errorf("RawTwelve of CorrectTwelve: %s, want %s", squareText(m), squareText(raw))
				}
			}
		}
		m, e = shown(x, two(t, "0 1;1 0"))
		if e != api.OK {
			continue
		}
		y, e := calibrate.Twelve([2]terms{x[0].One, x[1].One}, m, [2]num.Num{x[0].Leakage, x[1].Leakage})
		if e == api.OK {
			thrus++
		}
		if e == api.OK && sixText(y) != sixText(x) {
			t.Errorf("Twelve: %s, want %s", sixText(y), sixText(x))
		}
	}
	if fine < 250 || back < 250 || thrus < 250 {
		t.Errorf("%d, %d and %d of 300 exist", fine, back, thrus)
	}
}
