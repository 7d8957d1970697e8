package calibrate_test

import (
	"strconv"
	"testing"

	"waveport/api"
	"waveport/calibrate"
	"waveport/num"
)

func TestUnknownThru(t *testing.T) {
	plain := [2]terms{ideal, ideal}
	for _, c := range []struct{ raw, estimate, want string }{
		{"0 2;1/2 0", "1", "0 0 1;0 0 1 | 1 2"},
		{"0 2;1/2 0", "1/9-7i", "0 0 1;0 0 1 | 1 2"},
		{"0 2;1/2 0", "-1/9+7i", "0 0 1;0 0 1 | 1 -2"},
		{"0 2;-1/2 0", "1i", "0 0 1;0 0 1 | 1 -2i"}, // with the factor 2i, the root of -4, the transmission is -i
		{"0 2;-1/2 0", "-1i", "0 0 1;0 0 1 | 1 2i"},
	} {
		x, e := calibrate.UnknownThru(plain, two(t, c.raw), parse(t, c.estimate))
		if setText(x) != c.want || e != api.OK {
			t.Errorf("UnknownThru of %s with %s: %s, %d, want %s", c.raw, c.estimate, setText(x), e, c.want)
		}
	}
}

func TestUnknownThruErrors(t *testing.T) {
	for i, c := range []struct {
		ports    [2]string
		raw      string
		estimate string
		want     api.Errno
	}{
		{[2]string{"0 0 1", "0 0 1"}, "0 2;0 0", "1", api.ErrZero},      // nothing forward
		{[2]string{"0 0 0", "0 0 1"}, "0 2;1/2 0", "1", api.ErrZero},    // no Tracking of port 0
		{[2]string{"0 0 1", "0 0 1"}, "0 2;1 0", "1", api.ErrNone},      // no root of 2
		{[2]string{"0 0 1", "0 0 1"}, "0 2;1 0", "0", api.ErrNone},      // nor an estimate
		{[2]string{"0 0 1", "0 0 0"}, "0 2;1/2 0", "1", api.ErrZero},    // a factor of 0
		{[2]string{"0 0 1", "0 0 1"}, "0 0;1/2 0", "1", api.ErrZero},    // a factor of 0
		{[2]string{"0 -1 1", "0 0 1"}, "1 1;1 0", "0", api.ErrSingular}, // nothing that it corrects to
		{[2]string{"0 0 1", "0 0 1"}, "0 2;1/2 0", "0", api.ErrRoot},
		{[2]string{"0 0 1", "0 0 1"}, "0 2;1/2 0", "5i", api.ErrRoot},
		{[2]string{"0 0 1", "0 0 1"}, "0 2;1/2 0", "-1/3i", api.ErrRoot},
	} {
		x, e := calibrate.UnknownThru([2]terms{termsOf(t, c.ports[0]), termsOf(t, c.ports[1])}, two(t, c.raw), parse(t, c.estimate))
		code(t, "case "+strconv.Itoa(i), noSet(x), e, c.want)
	}
}

// TestUnknownThruReturns is P6.5 for UnknownThru.
func TestUnknownThruReturns(t *testing.T) {
	d := dice(15)
	fine := 0
	for range 300 {
		c := d.set(2)
		s := d.matrix(2, d.small)
		s[0][1], s[1][0] = d.clear(), num.Int(0)
		s[1][0] = s[0][1]
		raw, e := seen(c, s)
		if e != api.OK {
			continue
		}
		got, e := calibrate.UnknownThru([2]terms(c.Ports), square{[2]num.Num(raw[0]), [2]num.Num(raw[1])}, s[1][0].Mul(d.acute()))
		if setText(got) != setText(c) || e != api.OK {
			t.Errorf("UnknownThru: %s, %d, want %s", setText(got), e, setText(c))
		}
		fine++
		other := d.matrix(2, d.small)
		x, e := calibrate.Correct(got, other)
		y, f := calibrate.Correct(c, other)
		if matrixText(x) != matrixText(y) || e != f {
			t.Errorf("Correct: %s, %d, want %s, %d", matrixText(x), e, matrixText(y), f)
		}
	}
	if fine < 250 {
		t.Errorf("%d of 300 exist", fine)
	}
}

// linesOf returns lines with texts.
func linesOf(t *testing.T, thru, line, reflect string) lines {
	t.Helper()
	return lines{Thru: two(t, thru), Line: two(t, line), Reflect: [2]num.Num(list(t, reflect))}
}

func TestLineReflect(t *testing.T) {
	for _, c := range []struct{ thru, line, reflect, estimate, want, y, g string }{
		{"0 1;1 0", "0 -1i;-1i 0", "-1 -1", "-1", "0 0 1;0 0 1 | 1 1", "-1i", "-1"},
		{"0 1;1 0", "0 -1i;-1i 0", "-1 -1", "-1/9+5i", "0 0 1;0 0 1 | 1 1", "-1i", "-1"},
		{"0 1;1 0", "0 -1i;-1i 0", "-1i -1i", "-1/9-5i", "0 0 1;0 0 1 | 1 1", "-1i", "-1i"},
		{"0 1;1 0", "0 -1i;-1i 0", "-1 -1", "1/2", "0 0 -1;0 0 -1 | 1 -1", "-1i", "1"},
		{"0 1;1 0", "0 1/2-1/2i;1/2-1/2i 0", "1/3 1/3", "1", "0 0 1;0 0 1 | 1 1", "1/2-1/2i", "1/3"},
		{"0 2;1/2 0", "0 -2i;-1/2i 0", "-1 -1", "-1", "0 0 1;0 0 1 | 1 2", "-1i", "-1"},
		{"0 1;1 0", "0 -1i;-1i 0", "-4 -1", "-1", "0 0 2;0 0 1/2 | 1 1/2", "-1i", "-2"},
	} {
		x, y, g, e := calibrate.LineReflect(linesOf(t, c.thru, c.line, c.reflect), parse(t, c.estimate))
		if setText(x) != c.want || y.Text() != c.y || g.Text() != c.g || e != api.OK {
			t.Errorf("LineReflect of %s, %s and %s: %s, %s, %s, %d, want %s, %s, %s", c.thru, c.line, c.reflect, setText(x), y.Text(), g.Text(), e, c.want, c.y, c.g)
		}
	}
}

func TestLineReflectErrors(t *testing.T) {
	const thru, line, reflect = "0 1;1 0", "0 -1i;-1i 0", "-1 -1"
	for i, c := range []struct {
		thru, line, reflect, estimate string
		want                          api.Errno
	}{
		{"0 1;0 0", line, reflect, "-1", api.ErrZero}, {thru, "0 -1i;0 0", reflect, "-1", api.ErrZero}, // step 1
		{"0 0;1 0", "0 -1i;0 0", reflect, "-1", api.ErrZero},
		{"0 0;1 0", line, reflect, "-1", api.ErrSingular}, {"0 0;1 0", "1 1;1 1", reflect, "-1", api.ErrSingular}, // step 2
		{thru, "1 1;1 1", reflect, "-1", api.ErrNone}, {thru, "1 1;1 1", "0 0", "0", api.ErrNone}, // step 3: no root of -3
		{thru, thru, reflect, "-1", api.ErrRoot},                // two equal roots
		{thru, "0 1/2;1/2 0", reflect, "-1", api.ErrRoot},       // 1/2 and 2
		{thru, "0 -1;-1 0", reflect, "-1", api.ErrRoot},         // half a wave
		{thru, "0 -1i;1i 0", reflect, "-1", api.ErrRoot},        // -i twice
		{thru, "0 1i;-1i 0", reflect, "-1", api.ErrRoot},        // i twice
		{thru, "0 1i;1i 0", reflect, "-1", api.ErrZero},         // step 4: more than half a wave
		{"1 1;1 1", "-1 -1i;-1i 1", reflect, "-1", api.ErrZero}, // step 6: n00 is 0
		{"-1 1;1 0", "-1 1i;1i 2", reflect, "-1", api.ErrZero},  // n11 is 0
		{thru, line, "-1 0", "-1", api.ErrZero},                 // step 7: w is 0
		{thru, line, "0 -1", "-1", api.ErrZero},                 // a is 0
		{thru, line, "-2 -1", "-1", api.ErrNone},                // no root of 2
		{thru, line, "-2 -1", "0", api.ErrNone},                 // nor an estimate
		{thru, line, reflect, "0", api.ErrRoot},
		{thru, line, reflect, "3i", api.ErrRoot},
		{thru, line, reflect, "-3i", api.ErrRoot},
	} {
		x, y, g, e := calibrate.LineReflect(linesOf(t, c.thru, c.line, c.reflect), parse(t, c.estimate))
		code(t, "case "+strconv.Itoa(i), noSet(x) && allZero(y, g), e, c.want)
	}
	// In step 6 a reflect is seen that no reflection coefficient has: the raw one is -a/f + d at port 0, or -b/e + c at port 1.
	d := dice(16)
	for range 20 {
		c := set{Ports: []terms{termsOf(t, "1/3 1/5 1"), termsOf(t, "1/4 1i 1")}, Enter: list(t, "1 2")}
		l, ok := d.lines(c, parse(t, "-1i"), d.clear())
		if !ok {
			t.Fatal("no lines")
		}
		p := c.Ports[d.below(2)]
		far := p.Directivity.Sub(quotient(p.Tracking, p.Match))
		if p.Match.Side() == 0 {
			l.Reflect[0] = far
		} else {
			l.Reflect[1] = far
		}
		x, y, g, e := calibrate.LineReflect(l, num.Int(1))
		code(t, "an endless reflection", noSet(x) && allZero(y, g), e, api.ErrZero)
	}
}

// lines returns what a calibration shows of a thru, a line with the transmission y and a reflect with the reflection g; ok is false if one of them isn't seen.
func (d *dice) lines(c set, y, g num.Num) (l lines, ok bool) {
	zero, one := num.Int(0), num.Int(1)
	thru, e := seen(c, [][]num.Num{{zero, one}, {one, zero}})
	line, f := seen(c, [][]num.Num{{zero, y}, {y, zero}})
	both, h := seen(c, [][]num.Num{{g, zero}, {zero, g}})
	if e != api.OK || f != api.OK || h != api.OK {
		return l, false
	}
	l.Thru = square{[2]num.Num(thru[0]), [2]num.Num(thru[1])}
	l.Line = square{[2]num.Num(line[0]), [2]num.Num(line[1])}
	l.Reflect = [2]num.Num{both[0][0], both[1][1]}
	return l, true
}

// TestLineReflectReturns is P6.5 for LineReflect.
func TestLineReflectReturns(t *testing.T) {
	d := dice(17)
	fine := 0
	for range 300 {
		c, y, g := d.set(2), d.small(), d.clear()
		if y.Side() >= 0 {
			y = y.Conj()
		}
		if i := parse(t, "1i"); y.Side() == 0 {
			y = y.Sub(i)
		}
		l, ok := d.lines(c, y, g)
		if !ok {
			continue
		}
		got, z, h, e := calibrate.LineReflect(l, g.Mul(d.acute()))
		if e == api.OK {
			fine++
		}
		// No step is an error unless a or b is 0.
		p, q := c.Ports[0], c.Ports[1]
		a, b := p.Tracking.Sub(p.Directivity.Mul(p.Match)), q.Tracking.Sub(q.Directivity.Mul(q.Match))
		if e != api.OK && a.Clear() && b.Clear() {
			t.Errorf("LineReflect with %s: %d", setText(c), e)
		}
		if e == api.OK && (setText(got) != setText(c) || !z.Same(y) || !h.Same(g)) {
			t.Errorf("LineReflect: %s, %s, %s, want %s, %s, %s", setText(got), z.Text(), h.Text(), setText(c), y.Text(), g.Text())
		}
	}
	if fine < 250 {
		t.Errorf("%d of 300 exist", fine)
	}
}
