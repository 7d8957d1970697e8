package calibrate_test

import (
	"slices"
	"strings"
	"testing"

	"waveport/api"
	"waveport/calibrate"
	"waveport/num"
)

// TestMemoryOfKits is R4 for kits and standards.
func TestMemoryOfKits(t *testing.T) {
	k := demoKit(t)
	k.Standards = append(k.Standards, ordinary(calibrate.Short))[:len(k.Standards)]
	before := kitText(k)
	used, _ := calibrate.Connect(k, []string{"D"})
	for i := range used.Standards {
		s := &used.Standards[i]
		s.Name, s.Uses = "x", 7
		for j := range s.Points {
			s.Points[j] = calibrate.Point{}
		}
		_ = append(s.Points, calibrate.Point{})
	}
	_ = append(used.Standards, calibrate.Standard{})
	if kitText(k) != before || k.Standards[:7][6].Name != ordinary(calibrate.Short).Name {
		t.Errorf("the kit became %s", kitText(k))
	}
	names := []string{"S", "L_1"}
	calibrate.Connect(k, names)
	if strings.Join(names, " ") != "S L_1" {
		t.Errorf("the names became %v", names)
	}
	f, corrected := list(t, "1 2"), list(t, "3 4")
	calibrate.Verify(ordinary(calibrate.Known), f, corrected, num.Int(1))
	if listText(f)+" "+listText(corrected) != "1 2 3 4" {
		t.Errorf("the numbers became %s and %s", listText(f), listText(corrected))
	}
	a, _, _ := calibrate.ParseKit(demo)
	b, _, _ := calibrate.ParseKit(demo)
	a.Standards[3].Points[0], a.Standards[0].Name = calibrate.Point{}, "x"
	a.Standards[3].Points = append(a.Standards[3].Points, calibrate.Point{})
	if kitText(b) != kitText(demoKit(t)) || len(a.Standards[5].Points) != 1 || a.Standards[5].Points[0].Reflection.Text() != "2i" {
		t.Errorf("the kits became %s and %s", kitText(a), kitText(b))
	}
}

// TestMemory is R4 for terms and matrices.
func TestMemory(t *testing.T) {
	d := dice(23)
	c, m := d.set(3), d.matrix(3, d.small)
	before := setText(c) + matrixText(m)
	raw, _ := calibrate.Raw(c, m)
	corrected, _ := calibrate.Correct(c, m)
	thrus, _ := d.tree(c)
	rest := append(slices.Clone(c.Ports), terms{})[:3]
	x, _ := calibrate.Ports(rest, thrus)
	for i := range 3 {
		for k := range 3 {
			raw[i][k], corrected[i][k] = num.Int(99), num.Int(99)
		}
		x.Ports[i], x.Enter[i] = terms{}, num.Int(99)
	}
	_ = append(x.Ports, ideal)
	if setText(c)+matrixText(m) != before || setText(set{Ports: rest, Enter: c.Enter}) != setText(c) || termsText(rest[:4][3]) != "0 0 0" {
		t.Errorf("the arguments became %s, %s and %s", setText(c), matrixText(m), setText(set{Ports: rest, Enter: c.Enter}))
	}
	truth, seen := list(t, "-1 0 1 1/2 1i 7"), list(t, "-1 0 1 1/2 3 8")
	calibrate.Liar(truth[:5], seen[:5])
	calibrate.Residuals(ideal, truth[:5], seen[:5])
	if listText(truth) != "-1 0 1 1/2 1i 7" || listText(seen) != "-1 0 1 1/2 3 8" {
		t.Errorf("the reflections became %s and %s", listText(truth), listText(seen))
	}
}

// TestNothing has the zero values of all arguments.
func TestNothing(t *testing.T) {
	var x num.Num
	_, e := calibrate.Reflection(calibrate.Standard{}, x)
	code(t, "Reflection", true, e, api.ErrArg)
	k, line, e := calibrate.ParseKit("")
	code(t, "ParseKit", noKit(k) && line == 0, e, api.ErrForm)
	_, e = calibrate.PrintKit(calibrate.Kit{})
	code(t, "PrintKit", true, e, api.ErrArg)
	_, e = calibrate.Connect(calibrate.Kit{}, nil)
	code(t, "Connect", true, e, api.ErrArg)
	_, e = calibrate.Verify(calibrate.Standard{}, nil, nil, x)
	code(t, "Verify", true, e, api.ErrArg)
	_, e = calibrate.Raw1(terms{}, x)
	code(t, "Raw1", true, e, api.OK)
	_, e = calibrate.Correct1(terms{}, x)
	code(t, "Correct1", true, e, api.ErrZero)
	_, e = calibrate.Solve1([3]num.Num{}, [3]num.Num{})
	code(t, "Solve1", true, e, api.ErrSingular)
	_, e = calibrate.Residuals(terms{}, nil, nil)
	code(t, "Residuals", true, e, api.OK)
	_, e = calibrate.Liar(nil, nil)
	code(t, "Liar", true, e, api.ErrSize)
	_, e = calibrate.Ports[num.Num](nil, nil)
	code(t, "Ports", true, e, api.ErrSize)
	_, e = calibrate.Raw(set{}, nil)
	code(t, "Raw", true, e, api.ErrSize)
	_, e = calibrate.Correct(set{}, nil)
	code(t, "Correct", true, e, api.ErrSize)
	_, e = calibrate.UnknownThru([2]terms{}, square{}, x)
	code(t, "UnknownThru", true, e, api.ErrZero)
	_, _, _, e = calibrate.LineReflect(lines{}, x)
	code(t, "LineReflect", true, e, api.ErrZero)
	_, e = calibrate.Twelve([2]terms{}, square{}, [2]num.Num{})
	code(t, "Twelve", true, e, api.ErrZero)
	_, e = calibrate.RawTwelve([2]six{}, square{})
	code(t, "RawTwelve", true, e, api.OK)
	_, e = calibrate.CorrectTwelve([2]six{}, square{})
	code(t, "CorrectTwelve", true, e, api.ErrZero)
}

// TestSigns has numbers that make many sums and divisors 0: each function agrees with the chapter's words, and returns nothing with an error.
func TestSigns(t *testing.T) {
	d := dice(24)
	counts := map[string]int{}
	count := func(what string, e api.Errno) { counts[what+" "+e.Error()]++ }
	term := func() terms { return terms{Directivity: d.sign(), Match: d.sign(), Tracking: d.sign()} }
	for range 3000 {
		x, y := term(), term()
		ideal, raw := [3]num.Num(d.list(3, d.sign)), [3]num.Num(d.list(3, d.sign))
		got, e := ofTerms(calibrate.Solve1(ideal, raw))
		want, f := solve1(t, ideal, raw)
		like(t, "Solve1", got, e, want, f)
		count("Solve1", e)
		c := set{Ports: []terms{x, y}, Enter: d.list(2, d.sign)}
		s := d.two(d.sign)
		got, e = all(calibrate.Raw(c, rows(s)))
		want, f = rawMatrix(t, c, rows(s))
		like(t, "Raw", got, e, want, f)
		count("Raw", e)
		got, e = all(calibrate.Correct(c, rows(s)))
		want, f = correctMatrix(t, c, rows(s))
		like(t, "Correct", got, e, want, f)
		count("Correct", e)
		got, e = ofSet(calibrate.UnknownThru([2]terms{x, y}, s, raw[0]))
		want, f = unknownThru(t, [2]terms{x, y}, s, raw[0])
		like(t, "UnknownThru", got, e, want, f)
		count("UnknownThru", e)
		i := parse(t, "1i")
		l := lines{Thru: s, Line: d.two(func() num.Num { return d.sign().Mul(i).Add(d.sign()) }), Reflect: [2]num.Num{raw[1], raw[2]}}
		got, e = ofLines(calibrate.LineReflect(l, ideal[0]))
		want, f = lineReflect(t, l, ideal[0])
		like(t, "LineReflect", got, e, want, f)
		count("LineReflect", e)
		two := [2]six{{x, d.sign(), d.sign(), d.sign()}, {y, d.sign(), d.sign(), d.sign()}}
		got, e = ofSix(calibrate.Twelve([2]terms{x, y}, s, [2]num.Num{raw[0], raw[1]}))
		want, f = twelve(t, [2]terms{x, y}, s, [2]num.Num{raw[0], raw[1]})
		like(t, "Twelve", got, e, want, f)
		count("Twelve", e)
		m, e := calibrate.RawTwelve(two, s)
		got, e = all(rows(m), e)
		want, f = rawTwelve(t, two, s)
		like(t, "RawTwelve", got, e, want, f)
		count("RawTwelve", e)
		m, e = calibrate.CorrectTwelve(two, s)
		got, e = all(rows(m), e)
		want, f = correctTwelve(t, two, s)
		like(t, "CorrectTwelve", got, e, want, f)
		count("CorrectTwelve", e)
	}
	for _, what := range []string{"Solve1 0", "Solve1 6", "Raw 0", "Raw 3", "Raw 6", "Correct 0", "Correct 3", "Correct 6", "UnknownThru 0", "UnknownThru 3", "UnknownThru 6", "UnknownThru 60", "LineReflect 3", "LineReflect 5", "LineReflect 6", "LineReflect 60", "Twelve 0", "Twelve 3", "RawTwelve 0", "RawTwelve 3", "CorrectTwelve 0", "CorrectTwelve 3"} {
		if counts[what] == 0 {
			t.Errorf("%s: none", what)
		}
	}
}
