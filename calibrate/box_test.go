package calibrate_test

import (
	"testing"

	"waveport/api"
	"waveport/box"
	"waveport/calibrate"
	"waveport/num"
)

// tally counts the results over boxes.
type tally map[string]int

// encloses is P6.7 for one call of a function: of numbers, and of boxes around them.
func (c tally) encloses(t *testing.T, what string, l []num.Num, e api.Errno, b []box.Box, f api.Errno) {
	t.Helper()
	if f != api.OK || e == api.ErrNone {
		return
	}
	c[what]++
	if e != api.OK || len(l) != len(b) {
		t.Errorf("%s: %d, but boxes have a result", what, e)
		return
	}
	for i, x := range l {
		if !b[i].Has(x) {
			t.Errorf("%s: %s is not within %v, %v", what, x.Text(), b[i].Lo(), b[i].Hi())
		}
	}
}

// enough tests that there are results of all functions.
func (c tally) enough(t *testing.T, least int, functions ...string) {
	t.Helper()
	for _, what := range functions {
		if c[what] < least {
			t.Errorf("%s: %d exist, want %d", what, c[what], least)
		}
	}
}

// widths are those of the boxes around numbers in the tests below.
var widths = []float64{0x1p-40, 0x1p-20, 0x1p-4}

// TestOnePortBoxes is P6.7 and P3 for one port, and compares the corners with those by the chapter's words.
func TestOnePortBoxes(t *testing.T) {
	d := dice(19)
	counts := tally{}
	for i := range 300 {
		blur := blur{&d, widths[i%3]}
		x, g := d.terms(), d.small()
		y, h := blur.terms(x), blur.number(g)
		n, e := one(calibrate.Raw1(x, g))
		b, f := one(calibrate.Raw1(y, h))
		counts.encloses(t, "Raw1", n, e, b, f)
		want, wrong := raw1(t, y, h)
		like(t, "Raw1", b, f, want, wrong)
		n, e = one(calibrate.Correct1(x, g))
		b, f = one(calibrate.Correct1(y, h))
		counts.encloses(t, "Correct1", n, e, b, f)
		want, wrong = correct1(t, y, h)
		like(t, "Correct1", b, f, want, wrong)
		ideal, raw := d.list(3, d.small), d.list(3, d.small)
		n, e = ofTerms(calibrate.Solve1([3]num.Num(ideal), [3]num.Num(raw)))
		p, q := [3]box.Box(blur.list(ideal)), [3]box.Box(blur.list(raw))
		b, f = ofTerms(calibrate.Solve1(p, q))
		counts.encloses(t, "Solve1", n, e, b, f)
		want, wrong = solve1(t, p, q)
		like(t, "Solve1", b, f, want, wrong)
	}
	counts.enough(t, 200, "Raw1", "Correct1", "Solve1")
}

// TestSeveralPortsBoxes is P6.7 and P3 for several ports.
func TestSeveralPortsBoxes(t *testing.T) {
	d := dice(20)
	counts := tally{}
	for i := range 120 {
		blur := blur{&d, widths[i%3]}
		c := d.set(i%4 + 1)
		b := blur.set(c)
		s := d.matrix(len(c.Ports), d.small)
		r := blur.matrix(s)
		x, e := all(calibrate.Raw(c, s))
		y, f := all(calibrate.Raw(b, r))
		counts.encloses(t, "Raw", x, e, y, f)
		want, wrong := rawMatrix(t, b, r)
		like(t, "Raw", y, f, want, wrong)
		x, e = all(calibrate.Correct(c, s))
		y, f = all(calibrate.Correct(b, r))
		counts.encloses(t, "Correct", x, e, y, f)
		want, wrong = correctMatrix(t, b, r)
		like(t, "Correct", y, f, want, wrong)
		if thrus, ok := d.tree(c); ok {
			x, e = ofSet(calibrate.Ports(c.Ports, thrus))
			y, f = ofSet(calibrate.Ports(b.Ports, blur.thrus(thrus)))
			counts.encloses(t, "Ports", x, e, y, f)
		}
	}
	counts.enough(t, 80, "Raw", "Correct", "Ports")
}

// TestTwoPortsBoxes is P6.7 and P3 for UnknownThru and LineReflect. The steps of the latter make narrow boxes wide.
func TestTwoPortsBoxes(t *testing.T) {
	d := dice(21)
	counts := tally{}
	for i := range 150 {
		blur := blur{&d, []float64{0x1p-44, 0x1p-36, 0x1p-20}[i%3]}
		c, g, y := d.set(2), d.clear(), d.clear()
		for y.Side() >= 0 {
			y = d.clear()
		}
		estimate := g.Mul(d.acute())
		near := blur.number(estimate)
		s := d.matrix(2, d.small)
		s[0][1], s[1][0] = g, g
		if m, e := seen(c, s); e == api.OK {
			raw := square{[2]num.Num(m[0]), [2]num.Num(m[1])}
			both, r := [2]calibrate.Terms[box.Box](blur.ports(c.Ports)), blur.two(raw)
			x, e := ofSet(calibrate.UnknownThru([2]terms(c.Ports), raw, estimate))
			b, f := ofSet(calibrate.UnknownThru(both, r, near))
			counts.encloses(t, "UnknownThru", x, e, b, f)
			want, wrong := unknownThru(t, both, r, near)
			like(t, "UnknownThru", b, f, want, wrong)
		}
		if l, ok := d.lines(c, y, g); ok {
			w := blur.lines(l)
			x, e := ofLines(calibrate.LineReflect(l, estimate))
			b, f := ofLines(calibrate.LineReflect(w, near))
			counts.encloses(t, "LineReflect", x, e, b, f)
			want, wrong := lineReflect(t, w, near)
			like(t, "LineReflect", b, f, want, wrong)
		}
	}
	counts.enough(t, 60, "UnknownThru", "LineReflect")
}

// TestTwelveBoxes is P6.7 and P3 for the twelve terms.
func TestTwelveBoxes(t *testing.T) {
	d := dice(22)
	counts := tally{}
	for i := range 180 {
		blur := blur{&d, widths[i%3]}
		x, s := d.six(), d.two(d.small)
		y, r := blur.six(x), blur.two(s)
		m, e := calibrate.RawTwelve(x, s)
		n, e := all(rows(m), e)
		w, f := calibrate.RawTwelve(y, r)
		b, f := all(rows(w), f)
		counts.encloses(t, "RawTwelve", n, e, b, f)
		want, wrong := rawTwelve(t, y, r)
		like(t, "RawTwelve", b, f, want, wrong)
		m, e = calibrate.CorrectTwelve(x, s)
		n, e = all(rows(m), e)
		w, f = calibrate.CorrectTwelve(y, r)
		b, f = all(rows(w), f)
		counts.encloses(t, "CorrectTwelve", n, e, b, f)
		want, wrong = correctTwelve(t, y, r)
		like(t, "CorrectTwelve", b, f, want, wrong)
		ports, leakage := [2]calibrate.Terms[box.Box]{y[0].One, y[1].One}, [2]box.Box{y[0].Leakage, y[1].Leakage}
		n, e = ofSix(calibrate.Twelve([2]terms{x[0].One, x[1].One}, s, [2]num.Num{x[0].Leakage, x[1].Leakage}))
		b, f = ofSix(calibrate.Twelve(ports, r, leakage))
		counts.encloses(t, "Twelve", n, e, b, f)
		want, wrong = twelve(t, ports, r, leakage)
		like(t, "Twelve", b, f, want, wrong)
	}
	counts.enough(t, 120, "RawTwelve", "CorrectTwelve", "Twelve")
}

// TestBoxes has results with known corners.
func TestBoxes(t *testing.T) {
	x := calibrate.Terms[box.Box]{Tracking: between(t, 1, 2)}
	m, e := calibrate.Raw1(x, between(t, 0.5, 1))
	if m.Lo() != 0.5 || m.Hi() != 2 || e != api.OK {
		t.Errorf("Raw1: %v, %v, %d", m.Lo(), m.Hi(), e)
	}
	// The box comes back wider than it was.
	g, e := calibrate.Correct1(x, m)
	if g.Lo() != 0.25 || g.Hi() != 2 || e != api.OK {
		t.Errorf("Correct1: %v, %v, %d", g.Lo(), g.Hi(), e)
	}
	c, e := calibrate.Ports([]calibrate.Terms[box.Box]{x, x}, []calibrate.Thru[box.Box]{{P: 0, Q: 1, Forward: between(t, 0.5, 4)}})
	if e != api.OK || !c.Enter[0].Same(between(t, 1, 1)) || !c.Enter[1].Same(between(t, 0.25, 4)) {
		t.Errorf("Ports: %v, %d", c, e)
	}
	c.Enter[1] = between(t, 1, 2)
	s := [][]box.Box{{between(t, 0, 0), between(t, 1, 1)}, {between(t, 2, 3), between(t, 0, 0)}}
	raw, e := calibrate.Raw(c, s)
	if e != api.OK || !raw[0][1].Same(between(t, 1, 4)) || !raw[1][0].Same(between(t, 1, 6)) || !raw[0][0].Same(between(t, 0, 0)) {
		t.Errorf("Raw: %v, %d", raw, e)
	}
}

// TestUnsure has boxes that contain numbers for which there is no result.
func TestUnsure(t *testing.T) {
	zero, one, wide := between(t, 0, 0), between(t, 1, 1), between(t, -1, 1)
	plain, loose := calibrate.Terms[box.Box]{Tracking: one}, calibrate.Terms[box.Box]{Tracking: wide}
	x, e := calibrate.Raw1(calibrate.Terms[box.Box]{Match: wide, Tracking: one}, one)
	code(t, "Raw1", x.Same(zero), e, api.ErrZero)
	x, e = calibrate.Correct1(loose, one)
	code(t, "Correct1", x.Same(zero), e, api.ErrZero)
	y, e := calibrate.Solve1([3]box.Box{wide, wide, wide}, [3]box.Box{one, one, one})
	code(t, "Solve1 of wide boxes", y == calibrate.Terms[box.Box]{}, e, api.ErrSingular)
	// The system has a solution, but its Tracking may be 0.
	y, e = calibrate.Solve1([3]box.Box{between(t, -1, -1), zero, one}, [3]box.Box{between(t, -0.5, 0.5), zero, between(t, -0.5, 0.5)})
	code(t, "Solve1 without a certain Tracking", y == calibrate.Terms[box.Box]{}, e, api.ErrSingular)
	two := []calibrate.Terms[box.Box]{plain, plain}
	c, e := calibrate.Ports(two, []calibrate.Thru[box.Box]{{P: 0, Q: 1, Forward: wide, Back: one}})
	code(t, "Ports", noSet(c), e, api.ErrZero)
	through := [][]box.Box{{zero, one}, {one, zero}}
	m, e := calibrate.Raw(calibrate.Set[box.Box]{Ports: two, Enter: []box.Box{one, wide}}, through)
	code(t, "Raw", len(m) == 0, e, api.ErrZero)
	m, e = calibrate.Raw(calibrate.Set[box.Box]{Ports: []calibrate.Terms[box.Box]{{Match: wide, Tracking: one}, plain}, Enter: []box.Box{one, one}}, [][]box.Box{{one, zero}, {zero, zero}})
	code(t, "Raw", len(m) == 0, e, api.ErrSingular)
	m, e = calibrate.Raw(calibrate.Set[box.Box]{Ports: []calibrate.Terms[box.Box]{plain, loose}, Enter: []box.Box{one, one}}, through)
	code(t, "Raw without a certain Tracking", len(m) == 0, e, api.OK)
	m, e = calibrate.Correct(calibrate.Set[box.Box]{Ports: []calibrate.Terms[box.Box]{plain, loose}, Enter: []box.Box{one, one}}, through)
	code(t, "Correct", len(m) == 0, e, api.ErrZero)
	pair := [2]calibrate.Terms[box.Box]{plain, plain}
	c, e = calibrate.UnknownThru(pair, [2][2]box.Box{{zero, one}, {wide, zero}}, one)
	code(t, "UnknownThru", noSet(c), e, api.ErrZero)
	c, e = calibrate.UnknownThru(pair, [2][2]box.Box{{zero, one}, {one, zero}}, between(t, 0, 1))
	code(t, "UnknownThru", noSet(c), e, api.ErrRoot)
	c, e = calibrate.UnknownThru(pair, [2][2]box.Box{{zero, between(t, 2, 2)}, {one, zero}}, one)
	if root, _ := between(t, 2, 2).Sqrt(); e != api.OK || !c.Enter[1].Same(root) {
		t.Errorf("UnknownThru with a root that is no Num: %v, %d", c, e)
	}
	i, _ := box.Make(-1i, -1i)
	lines := calibrate.Lines[box.Box]{Thru: [2][2]box.Box{{zero, one}, {one, zero}}, Line: [2][2]box.Box{{zero, i}, {i, zero}}, Reflect: [2]box.Box{one, one}}
	c, p, q, e := calibrate.LineReflect(lines, between(t, -1, 0))
	code(t, "LineReflect", noSet(c) && p.Same(zero) && q.Same(zero), e, api.ErrRoot)
	short, _ := box.Make(0.5-1i, 1)
	lines.Line[0][1], lines.Line[1][0] = short, short
	c, p, q, e = calibrate.LineReflect(lines, one)
	code(t, "LineReflect of a short line", noSet(c) && p.Same(zero) && q.Same(zero), e, api.ErrRoot)
	// The root of about -4 is about 2i or -2i.
	near, _ := box.Make(-0x1p-40-1i, 0x1p-40-1i)
	lines.Line[0][1], lines.Line[1][0] = near, near
	c, p, q, e = calibrate.LineReflect(lines, one)
	code(t, "LineReflect of a line about without loss", noSet(c) && p.Same(zero) && q.Same(zero), e, api.ErrRoot)
	terms := calibrate.Six[box.Box]{One: plain, Transfer: wide}
	n, e := calibrate.CorrectTwelve([2]calibrate.Six[box.Box]{terms, terms}, lines.Thru)
	code(t, "CorrectTwelve", n == [2][2]box.Box{}, e, api.ErrZero)
	terms.One.Match = wide
	n, e = calibrate.RawTwelve([2]calibrate.Six[box.Box]{terms, terms}, [2][2]box.Box{{one, one}, {one, one}})
	code(t, "RawTwelve", n == [2][2]box.Box{}, e, api.ErrZero)
}
