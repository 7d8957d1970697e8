package calibrate_test

import (
	"slices"
	"strings"
	"testing"

	"waveport/api"
	"waveport/calibrate"
	"waveport/num"
)

// step is a number type that writes down the steps. Only 0 is not Clear.
type step string

// downward and upward are parts of the texts of steps: one that has the first of them has the Side -1, one that has the second the Side 1.
var downward, upward string

func (x step) Of(y num.Num) step { return step(y.Text()) }
func (x step) Add(y step) step   { return "(" + x + "+" + y + ")" }
func (x step) Sub(y step) step   { return "(" + x + "-" + y + ")" }
func (x step) Mul(y step) step   { return "(" + x + "*" + y + ")" }
func (x step) Neg() step         { return "neg" + x }
func (x step) Conj() step        { return x + "'" }
func (x step) Clear() bool       { return x != "0" }
func (x step) Same(y step) bool  { return x == y }
func (x step) Sqrt() (step, bool) {
	return "root" + x, true
}

func (x step) Div(y step) (step, api.Errno) {
	if !y.Clear() {
		return "", api.ErrZero
	}
	return "(" + x + "/" + y + ")", api.OK
}

func (x step) Side() int {
	switch {
	case downward != "" && strings.Contains(string(x), downward):
		return -1
	case upward != "" && strings.Contains(string(x), upward):
		return 1
	}
	return 0
}

func steps(s string) []step {
	var l []step
	for _, w := range strings.Fields(s) {
		l = append(l, step(w))
	}
	return l
}

func stepTerms(s string) calibrate.Terms[step] {
	l := steps(s)
	return calibrate.Terms[step]{Directivity: l[0], Match: l[1], Tracking: l[2]}
}

func stepTwo(s string) [2][2]step {
	l := steps(s)
	return [2][2]step{{l[0], l[1]}, {l[2], l[3]}}
}

func stepSix(s string) calibrate.Six[step] {
	l := steps(s)
	return calibrate.Six[step]{One: stepTerms(s), Leakage: l[3], LoadMatch: l[4], Transfer: l[5]}
}

// like tests that two results have the same numbers and errors.
func like[T num.Field[T]](t testing.TB, what string, got []T, e api.Errno, want []T, f api.Errno) {
	t.Helper()
	if e != f || !slices.EqualFunc(got, want, func(x, y T) bool { return x.Same(y) }) {
		t.Errorf("%s: %v, %d, want %v, %d", what, got, e, want, f)
	}
}

// one returns a list of one number, or nothing with an error.
func one[T any](x T, e api.Errno) ([]T, api.Errno) {
	if e != api.OK {
		return nil, e
	}
	return []T{x}, api.OK
}

// ofTerms returns the numbers of terms, or nothing with an error.
func ofTerms[T num.Field[T]](x calibrate.Terms[T], e api.Errno) ([]T, api.Errno) {
	if e != api.OK {
		return nil, e
	}
	return []T{x.Directivity, x.Match, x.Tracking}, api.OK
}

// ofLines returns the numbers of the result of LineReflect, or nothing with an error.
func ofLines[T num.Field[T]](c calibrate.Set[T], y, g T, e api.Errno) ([]T, api.Errno) {
	if e != api.OK {
		return nil, e
	}
	l, _ := ofSet(c, e)
	return append(l, y, g), api.OK
}

func TestStepsOfOnePort(t *testing.T) {
	x := stepTerms("d s r")
	got, e := one(calibrate.Raw1(x, "g"))
	like(t, "Raw1", got, e, steps("(d+((r*g)/(1-(s*g))))"), api.OK)
	want, f := raw1(t, x, "g")
	like(t, "Raw1", got, e, want, f)
	got, e = one(calibrate.Correct1(x, "m"))
	like(t, "Correct1", got, e, steps("((m-d)/(r+(s*(m-d))))"), api.OK)
	want, f = correct1(t, x, "m")
	like(t, "Correct1", got, e, want, f)
	ideal, raw := [3]step{"a", "b", "c"}, [3]step{"k", "l", "m"}
	got, e = ofTerms(calibrate.Solve1(ideal, raw))
	want, f = solve1(t, ideal, raw)
	like(t, "Solve1", got, e, want, f)
	solution, _ := num.Solve([][]step{{"1", "(k*a)", "a"}, {"1", "(l*b)", "b"}, {"1", "(m*c)", "c"}}, raw[:])
	like(t, "Solve1", got[:2], e, solution[:2], api.OK)
	like(t, "Solve1", got[2:], e, []step{"(" + solution[2] + "+(" + solution[0] + "*" + solution[1] + "))"}, api.OK)
}

func TestStepsOfPorts(t *testing.T) {
	l := []calibrate.Terms[step]{stepTerms("d s r"), stepTerms("f t q"), stepTerms("h u p")}
	got, e := calibrate.Ports(l, []calibrate.Thru[step]{{P: 0, Q: 1, Forward: "v", Back: "w"}, {P: 2, Q: 1, Forward: "x", Back: "y"}})
	like(t, "Ports", got.Enter, e, steps("1 ((1*q)/(v*(1-(s*t)))) ((((1*q)/(v*(1-(s*t))))*p)/(y*(1-(u*t))))"), api.OK)
	x, f := thruWords(t, l[0], l[1], "1", "v", false)
	like(t, "Ports forward", got.Enter[1:2], e, []step{x}, f)
	x, f = thruWords(t, l[2], l[1], x, "y", true)
	like(t, "Ports back", got.Enter[2:], e, []step{x}, f)
}

func TestStepsOfSeveralPorts(t *testing.T) {
	c := calibrate.Set[step]{Ports: []calibrate.Terms[step]{stepTerms("d s r"), stepTerms("f t q"), stepTerms("h u p")}, Enter: steps("x y z")}
	m := [][]step{steps("a11 a12 a13"), steps("a21 a22 a23"), steps("a31 a32 a33")}
	for n := 1; n <= 3; n++ {
		part := calibrate.Set[step]{Ports: c.Ports[:n], Enter: c.Enter[:n]}
		var s [][]step
		for _, row := range m[:n] {
			s = append(s, row[:n])
		}
		got, e := all(calibrate.Raw(part, s))
		want, f := rawMatrix(t, part, s)
		like(t, "Raw", got, e, want, f)
		got, e = all(calibrate.Correct(part, s))
		want, f = correctMatrix(t, part, s)
		like(t, "Correct", got, e, want, f)
	}
	one := calibrate.Set[step]{Ports: c.Ports[:1], Enter: c.Enter[:1]}
	got, e := all(calibrate.Raw(one, [][]step{{"g"}}))
	like(t, "Raw of one port", got, e, steps("(d+(((r/x)*(g*(1/(1-(s*g)))))*x))"), api.OK)
	got, e = all(calibrate.Correct(one, [][]step{{"m"}}))
	like(t, "Correct of one port", got, e, steps("((((m-d)/(r/x))/x)*(1/(1+(s*(((m-d)/(r/x))/x)))))"), api.OK)
}

func TestStepsOfUnknownThru(t *testing.T) {
	defer func() { downward, upward = "", "" }()
	ports, raw := [2]calibrate.Terms[step]{stepTerms("d s r"), stepTerms("f t q")}, stepTwo("k l m n")
	for _, sides := range [][2]string{{"", "1i*"}, {"1i*", ""}, {"", ""}} {
		downward, upward = sides[0], sides[1]
		got, e := ofSet(calibrate.UnknownThru(ports, raw, "estimate"))
		want, f := unknownThru(t, ports, raw, "estimate")
		like(t, "UnknownThru", got, e, want, f)
		enter := step("root((l*q)/(m*r))")
		switch {
		case downward != "":
			like(t, "UnknownThru", got[7:], e, []step{"neg" + enter}, api.OK)
		case upward != "":
			like(t, "UnknownThru", got[7:], e, []step{enter}, api.OK)
		default:
			like(t, "UnknownThru", got, e, nil, api.ErrRoot)
		}
	}
	// The Side asked for is that of i (s10 Conj(estimate)).
	c := calibrate.Set[step]{Ports: ports[:], Enter: []step{"1", "root((l*q)/(m*r))"}}
	s, _ := calibrate.Correct(c, rows(raw))
	downward = "(1i*(" + string(s[1][0]) + "*estimate'))"
	got, e := calibrate.UnknownThru(ports, raw, "estimate")
	code(t, "UnknownThru", noSet(got), e, api.OK)
}

func TestStepsOfLineReflect(t *testing.T) {
	defer func() { downward, upward = "", "" }()
	l := calibrate.Lines[step]{Thru: stepTwo("k l m n"), Line: stepTwo("o p q r"), Reflect: [2]step{"v", "w"}}
	// The text of the discriminant's root is followed by what tells the two roots apart.
	w := newWords[step](t).matrix("m", rows(l.Thru), api.OK)
	const chain = "c00 = -(m00*m11 - m01*m10)/m10; c01 = m00/m10; c10 = -m11/m10; c11 = 1/m10"
	thru := w.let(chain).square("c", 2)
	line := w.matrix("m", rows(l.Line), api.OK).let(chain).square("c", 2)
	inverse, _ := num.Inverse(thru)
	q, _ := num.Product(line, inverse)
	w.matrix("q", q, api.OK).let("t = q00 + q11; p = q00*q11 - q01*q10; h = sqrt(t*t - 4*p); a = (t + h)/2; b = (t - h)/2")
	more, less := string(w.get("a")[0]), string(w.get("b")[0])
	results := map[string]bool{}
	for _, sides := range [][2]string{{more, less}, {less, more}, {more, ""}, {"", less}, {"(1i*", more}} {
		downward, upward = sides[0], sides[1]
		got, e := ofLines(calibrate.LineReflect(l, "estimate"))
		want, f := lineReflect(t, l, "estimate")
		like(t, "LineReflect", got, e, want, f)
		if e != api.OK && e != api.ErrRoot {
			t.Errorf("LineReflect: %d", e)
		}
		if e == api.OK {
			results[string(got[8])] = true
		}
	}
	if !results[more] || !results[less] {
		t.Errorf("the roots: %d", len(results))
	}
}

func TestStepsOfTwelve(t *testing.T) {
	x := [2]calibrate.Six[step]{stepSix("d s r k l t"), stepSix("D S R K L T")}
	m := stepTwo("a b c e")
	got, e := calibrate.RawTwelve(x, m)
	const n = "(((1-(s*a))-(l*e))+((s*l)*((a*e)-(b*c))))"
	like(t, "RawTwelve", steps(string(got[0][0]+" "+got[1][0])), e, steps("(d+((r*(a-(l*((a*e)-(b*c)))))/"+n+")) (k+((t*c)/"+n+"))"), api.OK)
	l, e := all(rows(got), e)
	want, f := rawTwelve(t, x, m)
	like(t, "RawTwelve", l, e, want, f)
	got, e = calibrate.CorrectTwelve(x, m)
	l, e = all(rows(got), e)
	want, f = correctTwelve(t, x, m)
	like(t, "CorrectTwelve", l, e, want, f)
	ports, leakage := [2]calibrate.Terms[step]{x[0].One, x[1].One}, [2]step{"k", "K"}
	l, e = ofSix(calibrate.Twelve(ports, m, leakage))
	want, f = twelve(t, ports, m, leakage)
	like(t, "Twelve", l, e, want, f)
	like(t, "Twelve", l[5:6], e, steps("((c-k)*(1-(s*((a-d)/(r+(s*(a-d)))))))"), api.OK)
}
