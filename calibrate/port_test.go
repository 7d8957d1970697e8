package calibrate_test

import (
	"slices"
	"strconv"
	"testing"

	"waveport/api"
	"waveport/calibrate"
	"waveport/num"
)

func TestOnePort(t *testing.T) {
	x := termsOf(t, "1/10 1/5 9/10")
	for _, c := range [][2]string{{"-1", "-13/20"}, {"0", "1/10"}, {"1", "49/40"}} {
		m, e := calibrate.Raw1(x, parse(t, c[0]))
		is(t, "Raw1", m, e, c[1])
		g, e := calibrate.Correct1(x, parse(t, c[1]))
		is(t, "Correct1", g, e, c[0])
	}
	m, e := calibrate.Raw1(termsOf(t, "0 0 1"), parse(t, "3-2i"))
	is(t, "Raw1 of an ideal port", m, e, "3-2i")
	m, e = calibrate.Raw1(x, parse(t, "5"))
	fails(t, "Raw1 of 5", m, e, api.ErrZero)
	m, e = calibrate.Raw1(termsOf(t, "1 1/5 0"), parse(t, "5"))
	fails(t, "Raw1 of 5 without a Tracking", m, e, api.ErrZero)
	m, e = calibrate.Raw1(termsOf(t, "1 2 0"), parse(t, "5"))
	is(t, "Raw1 without a Tracking", m, e, "1")
	// 1/10 - 9/10 / (1/5) is the raw reflection of a device that reflects without bounds.
	g, e := calibrate.Correct1(x, parse(t, "-22/5"))
	fails(t, "Correct1 of -22/5", g, e, api.ErrZero)
	g, e = calibrate.Correct1(termsOf(t, "1 0 0"), parse(t, "2"))
	fails(t, "Correct1 without a Tracking", g, e, api.ErrZero)
	g, e = calibrate.Correct1(termsOf(t, "1 2 0"), parse(t, "3"))
	is(t, "Correct1 without a Tracking", g, e, "1/2")
}

// TestOnePortReturns is P6.2 for Raw1 and Correct1.
func TestOnePortReturns(t *testing.T) {
	d := dice(6)
	for range 400 {
		x, g := d.terms(), d.small()
		m, e := calibrate.Raw1(x, g)
		// The raw reflection is that of the terms as a fixture in front of the device.
		a, solvable := num.Solve([][]num.Num{{num.Int(1), x.Match.Neg()}, {g.Neg(), num.Int(1)}}, []num.Num{num.Int(1), num.Int(0)})
		if (e != api.OK) != (solvable != api.OK) {
			t.Errorf("Raw1 with %s of %s: %d, want %d", termsText(x), g.Text(), e, solvable)
		}
		if e == api.OK {
			is(t, "Raw1", m, e, x.Directivity.Add(x.Tracking.Mul(a[1])).Text())
			back, e := calibrate.Correct1(x, m)
			is(t, "Correct1 of Raw1", back, e, g.Text())
		}
		m = d.small()
		if g, e = calibrate.Correct1(x, m); e == api.OK {
			back, e := calibrate.Raw1(x, g)
			is(t, "Raw1 of Correct1", back, e, m.Text())
		}
	}
}

// rawOf returns the raw reflections of reflections, and whether there are all of them.
func rawOf(x terms, ideal []num.Num) ([]num.Num, bool) {
	raw := make([]num.Num, len(ideal))
	for i, g := range ideal {
		m, e := calibrate.Raw1(x, g)
		if e != api.OK {
			return nil, false
		}
		raw[i] = m
	}
	return raw, true
}

// TestSolve1 is P6.2 for Solve1.
func TestSolve1(t *testing.T) {
	d := dice(7)
	fine := 0
	for range 300 {
		want, ideal := d.terms(), d.different(3)
		raw, ok := rawOf(want, ideal)
		if !ok {
			continue
		}
		fine++
		o := d.order(3)
		x, e := calibrate.Solve1([3]num.Num{ideal[o[0]], ideal[o[1]], ideal[o[2]]}, [3]num.Num{raw[o[0]], raw[o[1]], raw[o[2]]})
		if e != api.OK || termsText(x) != termsText(want) {
			t.Errorf("Solve1: %s, %d, want %s", termsText(x), e, termsText(want))
		}
	}
	if fine < 200 {
		t.Errorf("%d of 300 exist", fine)
	}
}

func TestSolve1Errors(t *testing.T) {
	for _, c := range [][2]string{
		{"1 1 0", "1 2 0"},      // two standards alike, with different raw reflections
		{"1 1 0", "1 1 0"},      // and with equal ones
		{"1 2 3", "1 1/2 1/3"},  // 1/g: no terms
		{"1 2 3", "4 4 4"},      // all alike: a Tracking of 0
		{"0 1 2", "4 4 5"},      // two alike: a Tracking of 0
		{"1 2 3", "2 2 1"},      // two alike
		{"0 0 0", "0 0 0"},      // nothing
		{"1i -1i 1", "1i 1i 1"}, // two alike
	} {
		x, e := calibrate.Solve1([3]num.Num(list(t, c[0])), [3]num.Num(list(t, c[1])))
		code(t, "Solve1 of "+c[0]+" and "+c[1], allZero(x.Directivity, x.Match, x.Tracking), e, api.ErrSingular)
	}
}

func TestResiduals(t *testing.T) {
	x := termsOf(t, "1/10 1/5 9/10")
	l, e := calibrate.Residuals(x, list(t, "-1 1/2 3"), list(t, "-13/20 49/40 1/10"))
	if listText(l) != "0 1/2 -3" || e != api.OK {
		t.Errorf("Residuals: %s, %d", listText(l), e)
	}
	l, e = calibrate.Residuals(x, nil, nil)
	code(t, "Residuals of nothing", true, e, api.OK)
	long := make([]num.Num, 33)
	l, e = calibrate.Residuals(x, long[:32], long[:32])
	if len(l) != 32 || e != api.OK || l[31].Text() != "-5/44" {
		t.Errorf("Residuals of 32: %d, %d", len(l), e)
	}
	for _, c := range []struct {
		ideal, raw []num.Num
		want       api.Errno
	}{{long, long, api.ErrSize}, {long[:2], long[:1], api.ErrSize}, {long[:1], long[:2], api.ErrSize}, {long[:2], list(t, "0 -22/5"), api.ErrZero}, {long[:1], list(t, "0 -22/5"), api.ErrSize}} {
		l, e := calibrate.Residuals(x, c.ideal, c.raw)
		code(t, "Residuals", len(l) == 0, e, c.want)
	}
	d := dice(8)
	for range 100 {
		x, ideal, raw := d.terms(), d.list(4, d.small), d.list(4, d.small)
		l, e := calibrate.Residuals(x, ideal, raw)
		for i := range ideal {
			g, f := calibrate.Correct1(x, raw[i])
			if e == api.OK && (f != api.OK || !l[i].Same(g.Sub(ideal[i]))) {
				t.Errorf("Residuals: %s, not %s - %s, %d", l[i].Text(), g.Text(), ideal[i].Text(), f)
			}
		}
	}
}

// liar tests the result of Liar.
func liar(t *testing.T, what string, ideal, raw []num.Num, want int, e api.Errno) {
	t.Helper()
	if i, f := calibrate.Liar(ideal, raw); i != want || f != e {
		t.Errorf("%s: Liar of %s and %s is %d, %d, want %d, %d", what, listText(ideal), listText(raw), i, f, want, e)
	}
}

func TestLiar(t *testing.T) {
	ideal := list(t, "-1 0 1 1/2 1i")
	liar(t, "none", ideal, ideal, -1, api.OK)
	for i := range ideal {
		raw := slices.Clone(ideal)
		raw[i] = parse(t, "7/3")
		liar(t, "one", ideal, raw, i, api.OK)
		raw[i] = raw[(i+1)%5]
		liar(t, "one that is like another", ideal, raw, i, api.OK)
		raw[(i+2)%5] = parse(t, "9i")
		liar(t, "two", ideal, raw, 0, api.ErrNone)
	}
	liar(t, "four", ideal[:4], ideal[:4], 0, api.ErrSize)
	liar(t, "none at all", nil, nil, 0, api.ErrSize)
	liar(t, "raw ones too many", ideal, append(ideal[:5:5], ideal[0]), 0, api.ErrSize)
	liar(t, "raw ones too few", ideal, ideal[:4], 0, api.ErrSize)
	liar(t, "alike, raw ones too few", list(t, "1 1 2 3 4"), ideal[:4], 0, api.ErrSize)
	liar(t, "alike", list(t, "1 2 3 4 1"), ideal, 0, api.ErrTwice)
	liar(t, "alike, and agreeing", list(t, "1 2 3 3 4 5"), list(t, "1 2 3 3 4 5"), 0, api.ErrTwice)
	liar(t, "1/g, of which no terms are", list(t, "1 2 3 4 5"), list(t, "1 1/2 1/3 1/4 1/5"), 0, api.ErrNone)
	liar(t, "a Tracking of 0", ideal, list(t, "3 3 3 3 3"), 0, api.ErrNone)
	liar(t, "a Tracking of 0, and one", ideal, list(t, "3 3 3 3 4"), 0, api.ErrNone)
	// With g = -1 at the pole of g/(1 + g), whatever is seen there is a lie.
	liar(t, "a pole", list(t, "1 2 3 4 -1"), list(t, "1/2 2/3 3/4 4/5 7"), 4, api.OK)
	liar(t, "a pole among the first", list(t, "-1 1 2 3 4"), list(t, "0 1/2 2/3 3/4 4/5"), 0, api.OK)
}

func TestLongLiar(t *testing.T) {
	x := termsOf(t, "1/10 1/5 9/10")
	var ideal []num.Num
	for i := range 33 {
		ideal = append(ideal, quotient(num.Int(int64(i)), num.Int(17)))
	}
	raw, _ := rawOf(x, ideal)
	liar(t, "33", ideal, raw, 0, api.ErrSize)
	ideal, raw = ideal[:32], raw[:32]
	liar(t, "32", ideal, raw, -1, api.OK)
	raw[31] = num.Int(0)
	liar(t, "32 with one", ideal, raw, 31, api.OK)
	ideal[31] = ideal[0]
	liar(t, "32 with two alike", ideal, raw, 0, api.ErrTwice)
}

// crossed reports whether four reflections have the cross ratio of their raw ones, by which every map with terms takes one to the other.
func crossed(g, m [4]num.Num) bool {
	side := func(x [4]num.Num) (num.Num, num.Num) {
		return x[0].Sub(x[2]).Mul(x[1].Sub(x[3])), x[0].Sub(x[3]).Mul(x[1].Sub(x[2]))
	}
	a, b := side(g)
	c, d := side(m)
	return a.Mul(d).Same(b.Mul(c))
}

// agreeing reports whether standards with different reflections agree: the raw ones differ, all cross ratios are kept, and what is taken to 0 by the first three has a raw reflection.
func agreeing(ideal, raw []num.Num) bool {
	for i := range raw {
		for k := range i {
			if raw[i].Same(raw[k]) {
				return false
			}
		}
		if i > 2 && !crossed([4]num.Num{ideal[0], ideal[1], ideal[2], ideal[i]}, [4]num.Num{raw[0], raw[1], raw[2], raw[i]}) {
			return false
		}
	}
	// g = 0 with g0, g1, g2 has the cross ratio a/b = ((g0 - g2) g1)/(g0 (g1 - g2)); the raw one of infinity with m0, m1, m2 is (m0 - m2)/(m1 - m2).
	a, b := ideal[0].Sub(ideal[2]).Mul(ideal[1]), ideal[0].Mul(ideal[1].Sub(ideal[2]))
	return !raw[0].Sub(raw[2]).Mul(b).Same(raw[1].Sub(raw[2]).Mul(a))
}

// TestLiars compares Liar with a search by cross ratios, and tests P6.3.
func TestLiars(t *testing.T) {
	d := dice(9)
	counts := map[string]int{}
	for range 600 {
		n := 5 + d.below(4)
		ideal := d.different(n)
		x := d.terms()
		if d.below(4) == 0 {
			x.Directivity, x.Match, x.Tracking = d.sign(), d.sign(), num.Int(1)
		}
		raw, ok := rawOf(x, ideal)
		if !ok {
			continue
		}
		lies := d.below(4)
		first := d.below(n)
		for k := range lies {
			i := (first + k) % n
			if d.below(3) == 0 {
				raw[i] = raw[(i+1)%n]
			} else {
				raw[i] = raw[i].Add(d.clear())
			}
		}
		want, e := wanted(ideal, raw)
		liar(t, strconv.Itoa(lies)+" lies", ideal, raw, want, e)
		counts[strconv.Itoa(want)+" "+e.Error()]++
		if lies == 0 && want != -1 || lies == 1 && want != first {
			t.Errorf("%d lies at %d: %d", lies, first, want)
		}
	}
	if counts["-1 0"] < 80 || counts["0 5"] < 80 || counts["3 0"] < 10 {
		t.Errorf("%v", counts)
	}
}

// wanted returns the result of Liar for valid arguments.
func wanted(ideal, raw []num.Num) (int, api.Errno) {
	if agreeing(ideal, raw) {
		return -1, api.OK
	}
	var found []int
	for i := range ideal {
		if agreeing(slices.Delete(slices.Clone(ideal), i, i+1), slices.Delete(slices.Clone(raw), i, i+1)) {
			found = append(found, i)
		}
	}
	if len(found) != 1 {
		return 0, api.ErrNone
	}
	return found[0], api.OK
}

// TestNoTerms has reflections that some map without terms takes to the raw ones.
func TestNoTerms(t *testing.T) {
	d := dice(10)
	for range 60 {
		var ideal, raw []num.Num
		k, c := d.clear(), d.small()
		for _, g := range d.different(7) {
			if g.Clear() && len(ideal) < 6 {
				ideal, raw = append(ideal, g), append(raw, c.Add(quotient(k, g)))
			}
		}
		liar(t, "c + k/g", ideal, raw, 0, api.ErrNone)
		raw[2] = raw[2].Add(d.clear())
		liar(t, "c + k/g but for one", ideal, raw, 0, api.ErrNone)
	}
}
