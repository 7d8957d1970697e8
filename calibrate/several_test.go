package calibrate_test

import (
	"strconv"
	"testing"

	"waveport/api"
	"waveport/calibrate"
	"waveport/num"
)

var ideal = terms{Tracking: num.Int(1)}

// ports tests the factors that Ports finds.
func ports(t *testing.T, what string, l []terms, thrus []thru, want string) {
	t.Helper()
	c, e := calibrate.Ports(l, thrus)
	if e != api.OK || listText(c.Enter) != want || setText(c) != setText(set{Ports: l, Enter: c.Enter}) {
		t.Errorf("%s: %s, %d, want %s", what, setText(c), e, want)
	}
}

// joint returns the thru between two ports with the raw transmissions that have texts.
func joint(t *testing.T, p, q int, forward, back string) thru {
	t.Helper()
	return thru{P: p, Q: q, Forward: parse(t, forward), Back: parse(t, back)}
}

func TestPorts(t *testing.T) {
	l := []terms{ideal, ideal, ideal}
	ports(t, "one port", l[:1], nil, "1")
	ports(t, "forward", l[:2], []thru{joint(t, 0, 1, "1/2", "0")}, "1 2")
	ports(t, "back", l[:2], []thru{joint(t, 1, 0, "0", "1/2")}, "1 2")
	ports(t, "a chain", l, []thru{joint(t, 1, 2, "1/3", "3"), joint(t, 0, 1, "1/2", "2")}, "1 2 6")
	ports(t, "a star", l, []thru{joint(t, 2, 0, "0", "1/3"), joint(t, 0, 1, "1/2", "2")}, "1 2 3")
	ports(t, "the first one counts", l[:2], []thru{joint(t, 0, 1, "1/2", "2"), joint(t, 0, 1, "1/3", "3"), joint(t, 1, 0, "0", "0")}, "1 2")
	// With a factor of port 1 both of the last two can give that of port 2: the first one of them does, in each round.
	ports(t, "the first one of each round", l, []thru{joint(t, 1, 2, "1", "0"), joint(t, 0, 1, "1/2", "0"), joint(t, 0, 2, "1/7", "0")}, "1 2 2")
	ports(t, "the first one of all", l, []thru{joint(t, 0, 2, "1/7", "0"), joint(t, 1, 2, "1", "1"), joint(t, 0, 1, "1/2", "0")}, "1 7 7")
	l = []terms{termsOf(t, "5 1/2 3"), termsOf(t, "6 1/3 5")}
	ports(t, "terms", l, []thru{joint(t, 0, 1, "2", "7")}, "1 3")
	ports(t, "terms", l, []thru{joint(t, 1, 0, "7", "2")}, "1 3")
	l[1].Tracking = num.Int(0)
	ports(t, "no Tracking", l, []thru{joint(t, 0, 1, "2", "7")}, "1 0")
}

func TestPortsErrors(t *testing.T) {
	nine := make([]terms, 9)
	for i := range nine {
		nine[i] = ideal
	}
	many := make([]thru, 65)
	for i := range many {
		many[i] = joint(t, 0, 1, "1/2", "2")
	}
	ports(t, "64 thrus", nine[:2], many[:64], "1 2")
	star := many[:0:0]
	for i := range 7 {
		star = append(star, joint(t, i+1, 0, "0", "1/2"))
	}
	ports(t, "8 ports", nine[:8], star, "1 2 2 2 2 2 2 2")
	one := parse(t, "1")
	across := []terms{{Match: num.Int(2), Tracking: one}, {Match: parse(t, "1/2"), Tracking: one}, ideal}
	for i, c := range []struct {
		l     []terms
		thrus []thru
		want  api.Errno
	}{
		{nil, nil, api.ErrSize}, {nine, star, api.ErrSize}, {nine[:2], many, api.ErrSize}, {nine[:1], many, api.ErrSize}, {nil, []thru{joint(t, 0, 0, "1", "1")}, api.ErrSize},
		{nine[:2], nil, api.ErrNone}, {nine[:3], many[:1], api.ErrNone}, {nine[:4], []thru{many[0], joint(t, 2, 3, "1", "1")}, api.ErrNone},
		{nine[:2], []thru{joint(t, 0, 2, "1", "1")}, api.ErrArg}, {nine[:2], []thru{joint(t, -1, 1, "1", "1")}, api.ErrArg}, {nine[:2], []thru{joint(t, 2, 1, "1", "1")}, api.ErrArg}, {nine[:2], []thru{joint(t, 0, -1, "1", "1")}, api.ErrArg},
		{nine[:2], []thru{many[0], joint(t, 1, 1, "1", "1")}, api.ErrArg}, {nine[:1], []thru{joint(t, 0, 0, "1", "1")}, api.ErrArg}, {nine[:1], many[:1], api.ErrArg},
		{nine[:2], []thru{joint(t, 0, 1, "0", "1"), joint(t, 0, 5, "1", "1")}, api.ErrArg},
		{nine[:2], []thru{joint(t, 0, 1, "0", "1")}, api.ErrZero}, {nine[:2], []thru{joint(t, 1, 0, "1", "0")}, api.ErrZero}, {nine[:2], []thru{joint(t, 0, 1, "0", "1"), many[0]}, api.ErrZero},
		{nine[:3], []thru{joint(t, 0, 1, "0", "1")}, api.ErrZero},
		{across[:2], many[:1], api.ErrZero}, {across, []thru{many[0], joint(t, 0, 2, "1", "1")}, api.ErrZero},
	} {
		x, e := calibrate.Ports(c.l, c.thrus)
		code(t, "case "+strconv.Itoa(i), noSet(x), e, c.want)
	}
	ports(t, "no thru across", across, []thru{joint(t, 0, 2, "1", "1"), joint(t, 1, 2, "1", "1"), many[0]}, "1 1 1")
}

// tree returns thrus that join all ports, some of them more than once, in some order, as a calibration shows them; ok is false if it doesn't show one of them.
func (d *dice) tree(c set) (l []thru, ok bool) {
	n := len(c.Ports)
	o := d.order(n)
	for k := 1; k < n+d.below(3) && n > 1; k++ {
		p, q := o[d.below(n)], 0
		if k < n { // a tree, and then some more
			p, q = o[k], o[d.below(k)]
		} else if q = o[d.below(n)]; p == q {
			continue
		}
		if d.below(2) == 0 {
			p, q = q, p
		}
		pair := set{Ports: []terms{c.Ports[p], c.Ports[q]}, Enter: []num.Num{c.Enter[p], c.Enter[q]}}
		raw, e := seen(pair, [][]num.Num{{num.Int(0), num.Int(1)}, {num.Int(1), num.Int(0)}})
		if e != api.OK {
			return nil, false
		}
		l = append(l, thru{P: p, Q: q, Forward: raw[1][0], Back: raw[0][1]})
	}
	for i, k := range d.order(len(l)) {
		l[i], l[k] = l[k], l[i]
	}
	return l, true
}

// TestPortsReturn is P6.4 for Ports.
func TestPortsReturn(t *testing.T) {
	d := dice(11)
	fine := 0
	for i := range 200 {
		c := d.set(i%5 + 1)
		// All factors may be multiplied by the same number.
		k := d.clear()
		other := set{Ports: c.Ports}
		for _, x := range c.Enter {
			other.Enter = append(other.Enter, x.Mul(k))
		}
		thrus, ok := d.tree(other)
		if !ok {
			continue
		}
		fine++
		got, e := calibrate.Ports(c.Ports, thrus)
		if e != api.OK || setText(got) != setText(c) {
			t.Errorf("Ports: %s, %d, want %s", setText(got), e, setText(c))
		}
		s := d.matrix(len(c.Ports), d.small)
		x, e := calibrate.Raw(got, s)
		y, f := calibrate.Raw(other, s)
		if e != f || matrixText(x) != matrixText(y) {
			t.Errorf("Raw: %s, %d, want %s, %d", matrixText(x), e, matrixText(y), f)
		}
	}
	if fine < 150 {
		t.Errorf("%d of 200 exist", fine)
	}
}

// TestSeveralPorts is P6.4 for Raw and Correct, and compares Raw with the equations of the waves.
func TestSeveralPorts(t *testing.T) {
	d := dice(12)
	fine, back := 0, 0
	for i := range 150 {
		n := i%5 + 1
		if i == 149 {
			n = 8
		}
		c, element := d.set(n), d.small
		if d.below(4) == 0 {
			element = d.sign
		}
		s := d.matrix(n, element)
		raw, e := calibrate.Raw(c, s)
		want, f := seen(c, s)
		if e != f || matrixText(raw) != matrixText(want) {
			t.Errorf("Raw: %s, %d, want %s, %d", matrixText(raw), e, matrixText(want), f)
		}
		if e == api.OK {
			fine++
			x, e := calibrate.Correct(c, raw)
			if e != api.OK || matrixText(x) != matrixText(s) {
				t.Errorf("Correct of Raw: %s, %d, want %s", matrixText(x), e, matrixText(s))
			}
		}
		m := d.matrix(n, element)
		x, e := calibrate.Correct(c, m)
		if e == api.OK {
			back++
			y, e := calibrate.Raw(c, x)
			if e != api.OK || matrixText(y) != matrixText(m) {
				t.Errorf("Raw of Correct: %s, %d, want %s", matrixText(y), e, matrixText(m))
			}
		}
	}
	if fine < 120 || back < 120 {
		t.Errorf("%d and %d of 150 exist", fine, back)
	}
}

// TestOneOfSeveral has calibrations of one port, which are those of Raw1 and Correct1.
func TestOneOfSeveral(t *testing.T) {
	d := dice(13)
	for range 100 {
		x, g := d.terms(), d.small()
		c := set{Ports: []terms{x}, Enter: []num.Num{d.clear()}}
		a, e := calibrate.Raw(c, [][]num.Num{{g}})
		b, f := calibrate.Raw1(x, g)
		if (e == api.OK) != (f == api.OK) || e == api.OK && !a[0][0].Same(b) {
			t.Errorf("Raw: %s, %d, Raw1: %s, %d", matrixText(a), e, b.Text(), f)
		}
		a, e = calibrate.Correct(c, [][]num.Num{{g}})
		b, f = calibrate.Correct1(x, g)
		if (e == api.OK) != (f == api.OK) || e == api.OK && !a[0][0].Same(b) {
			t.Errorf("Correct: %s, %d, Correct1: %s, %d", matrixText(a), e, b.Text(), f)
		}
	}
}

func TestMatrixErrors(t *testing.T) {
	d := dice(14)
	c := d.set(2)
	none := set{Ports: []terms{ideal, ideal}, Enter: list(t, "1 0")}
	flat := set{Ports: []terms{ideal, {}}, Enter: list(t, "1 1")}
	loud := set{Ports: []terms{{Match: num.Int(1), Tracking: num.Int(1)}, ideal}, Enter: list(t, "0 0")}
	for i, x := range []struct {
		c            set
		m            [][]num.Num
		raw, correct api.Errno
	}{
		{set{}, nil, api.ErrSize, api.ErrSize}, {set{Enter: c.Enter}, matrix(t, "1 2;3 4"), api.ErrSize, api.ErrSize},
		{set{Ports: c.Ports}, matrix(t, "1 2;3 4"), api.ErrSize, api.ErrSize}, {set{Ports: c.Ports, Enter: c.Enter[:1]}, matrix(t, "1 2;3 4"), api.ErrSize, api.ErrSize},
		{set{Ports: c.Ports[:1], Enter: c.Enter}, matrix(t, "1"), api.ErrSize, api.ErrSize}, {d.set(9), d.matrix(9, d.small), api.ErrSize, api.ErrSize},
		{c, nil, api.ErrSize, api.ErrSize}, {c, matrix(t, "1 2"), api.ErrSize, api.ErrSize}, {c, matrix(t, "1 2;3 4;5 6"), api.ErrSize, api.ErrSize},
		{c, matrix(t, "1 2;3"), api.ErrSize, api.ErrSize}, {c, matrix(t, "1 2 3;4 5 6"), api.ErrSize, api.ErrSize}, {c, [][]num.Num{nil, nil}, api.ErrSize, api.ErrSize},
		{none, matrix(t, "0 1;1 0"), api.ErrZero, api.ErrZero}, {none, matrix(t, "0 1;1"), api.ErrSize, api.ErrSize},
		{flat, matrix(t, "0 1;1 0"), api.OK, api.ErrZero},
		{loud, matrix(t, "1 0;0 0"), api.ErrSingular, api.ErrZero},
		{set{Ports: loud.Ports, Enter: list(t, "1 1")}, matrix(t, "1 0;0 0"), api.ErrSingular, api.OK},
		{set{Ports: loud.Ports, Enter: list(t, "1 1")}, matrix(t, "-1 0;0 0"), api.OK, api.ErrSingular},
	} {
		m, e := calibrate.Raw(x.c, x.m)
		code(t, "Raw, case "+strconv.Itoa(i), len(m) == 0, e, x.raw)
		m, e = calibrate.Correct(x.c, x.m)
		code(t, "Correct, case "+strconv.Itoa(i), len(m) == 0, e, x.correct)
	}
}

func TestMatrices(t *testing.T) {
	c := set{Ports: []terms{termsOf(t, "1/10 1/5 9/10"), termsOf(t, "0 0 1/2")}, Enter: list(t, "1 2")}
	m, e := calibrate.Raw(c, matrix(t, "1 2;3 4"))
	// Port 0 sends: a0 = 5/4, b0 = 5/4 and b1 = 15/4. Port 1 sends: a1 = 2, a0 = 1/5 b0, b0 = a0 + 4.
	if want := "49/40 9/2;15/16 11/4"; matrixText(m) != want || e != api.OK {
		t.Errorf("Raw: %s, %d, want %s", matrixText(m), e, want)
	}
	m, e = calibrate.Correct(c, m)
	if want := "1 2;3 4"; matrixText(m) != want || e != api.OK {
		t.Errorf("Correct: %s, %d, want %s", matrixText(m), e, want)
	}
}
