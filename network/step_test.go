package network_test

import (
	"strings"
	"testing"

	"waveport/api"
	"waveport/network"
	"waveport/num"
)

// step is a number type that writes down the steps. Only 0 is not Clear.
type step string

func (x step) Of(y num.Num) step { return step(y.Text()) }
func (x step) Add(y step) step   { return "(" + x + "+" + y + ")" }
func (x step) Sub(y step) step   { return "(" + x + "-" + y + ")" }
func (x step) Mul(y step) step   { return "(" + x + "*" + y + ")" }
func (x step) Neg() step         { return "neg" + x }
func (x step) Conj() step        { return x + "'" }
func (x step) Clear() bool       { return x != "0" }
func (x step) Same(y step) bool  { return x == y }
func (x step) Div(y step) (step, api.Errno) {
	if !y.Clear() {
		return "", api.ErrZero
	}
	return "(" + x + "/" + y + ")", api.OK
}

func stepList(s string) []step {
	var l []step
	for _, w := range strings.Fields(s) {
		l = append(l, step(w))
	}
	return l
}

func stepMatrix(s string) [][]step {
	var m [][]step
	for _, row := range strings.Split(s, ";") {
		m = append(m, stepList(row))
	}
	return m
}

func stepText(m [][]step) string {
	var rows []string
	for _, row := range m {
		var words []string
		for _, x := range row {
			words = append(words, string(x))
		}
		rows = append(rows, strings.Join(words, " "))
	}
	return strings.Join(rows, ";")
}

func stepNet(t *testing.T, z, s string) network.Net[step] {
	t.Helper()
	return made(t, list(t, z), stepMatrix(s))
}

// hasSteps tests the steps of the elements of a network.
func hasSteps(t *testing.T, what string, n network.Net[step], e api.Errno, want string) {
	t.Helper()
	if got := stepText(elements(n)); got != want || e != api.OK {
		t.Errorf("%s: %s, %d, want %s", what, got, e, want)
	}
}

// filled returns a text in which each letter is replaced by another text.
func filled(s string, pairs ...string) string {
	return strings.NewReplacer(pairs...).Replace(s)
}

func TestStepsOfConnections(t *testing.T) {
	n := stepNet(t, "50 50 50", "a b c;d e f;g h i")
	if b, e := network.Drive(n, stepList("u v w")); stepText([][]step{b}) != "(((a*u)+(b*v))+(c*w)) (((d*u)+(e*v))+(f*w)) (((g*u)+(h*v))+(i*w))" || e != api.OK {
		t.Errorf("Drive: %v, %d", b, e)
	}
	s, e := network.Stack(stepNet(t, "50", "a"), stepNet(t, "50 50", "b c;d e"))
	hasSteps(t, "Stack", s, e, "a 0 0;0 b c;0 d e")
	s, e = network.Renumber(n, []int{3, 1, 2})
	hasSteps(t, "Renumber", s, e, "i g h;c a b;f d e")
	s, e = network.Terminate(n, 2, "q")
	hasSteps(t, "Terminate", s, e, filled("(a+(b*(F*d))) (c+(b*(F*f)));(g+(h*(F*d))) (i+(h*(F*f)))", "F", "(q/(1-(e*q)))"))
	s, e = network.Join(n, nil)
	hasSteps(t, "Join without joints", s, e, "a b c;d e f;g h i")
	v, _ := num.Solve(stepMatrix("(1-h) (0-i);(0-e) (1-f)"), stepList("g d"))
	s, e = network.Join(n, [][2]int{{2, 3}})
	hasSteps(t, "Join of 2 and 3", s, e, filled("((a+(b*V))+(c*W))", "V", string(v[0]), "W", string(v[1])))
	v, _ = num.Solve(stepMatrix("(1-f) (0-e);(0-i) (1-h)"), stepList("d g"))
	s, e = network.Join(n, [][2]int{{3, 2}})
	hasSteps(t, "Join of 3 and 2", s, e, filled("((a+(c*V))+(b*W))", "V", string(v[0]), "W", string(v[1])))
	v, _ = num.Solve(stepMatrix("(1-24) (0-22) (0-21) (0-25);(0-44) (1-42) (0-41) (0-45);(0-54) (0-52) (1-51) (0-55);(0-14) (0-12) (0-11) (1-15)"), stepList("23 43 53 13"))
	s, e = network.Join(stepNet(t, "50 50 50 50 50", "11 12 13 14 15;21 22 23 24 25;31 32 33 34 35;41 42 43 44 45;51 52 53 54 55"), [][2]int{{4, 2}, {1, 5}})
	hasSteps(t, "Join of two joints", s, e, filled("((((33+(34*A))+(32*B))+(31*C))+(35*D))", "A", string(v[0]), "B", string(v[1]), "C", string(v[2]), "D", string(v[3])))
}

func TestStepsOfFixtures(t *testing.T) {
	n := stepNet(t, "50 50 50", "11 12 13;21 22 23;31 32 33")
	f := stepNet(t, "50 50", "a b;c d")
	s, e := network.Embed(n, 2, f)
	hasSteps(t, "Embed", s, e, filled("(11+((12/E)*(d*21))) ((12/E)*c) (13+((12/E)*(d*23)));(b*(21/E)) (a+(b*(c*(22/E)))) (b*(23/E));(31+((32/E)*(d*21))) ((32/E)*c) (33+((32/E)*(d*23)))", "E", "(1-(d*22))"))
	s, e = network.Remove(n, 2, f)
	hasSteps(t, "Remove", s, e, filled("(11-((12/E)*(d*21))) ((12/E)*b) (13-((12/E)*(d*23)));(c*(21/E)) ((22-a)/E) (c*(23/E));(31-((32/E)*(d*21))) ((32/E)*b) (33-((32/E)*(d*23)))", "E", "((b*c)+(d*(22-a)))"))
	for _, z := range []string{"0 b;c d", "a 0;c d", "a b;0 d"} { // only b and c have to be Clear
		_, e := network.Remove(n, 2, stepNet(t, "50 50", z))
		if want := map[bool]api.Errno{true: api.OK, false: api.ErrSingular}[z[0] == '0']; e != want {
			t.Errorf("Remove of %s: %d, want %d", z, e, want)
		}
	}
}

// times returns the steps of a product of matrices.
func times(a, b [][]step) [][]step {
	p, _ := num.Product(a, b)
	return p
}

// inverse returns the steps of an inverse.
func inverse(s string) [][]step {
	m, _ := num.Inverse(stepMatrix(s))
	return m
}

func TestStepsOfDescriptions(t *testing.T) {
	n := stepNet(t, "50 75", "a b;c d")
	const sum, difference = "(1+a) (0+b);(0+c) (1+d)", "(1-a) (0-b);(0-c) (1-d)"
	p := times(stepMatrix(sum), inverse(difference))
	m, e := network.Impedance(n)
	if want := stepText([][]step{{p[0][0].Mul("50"), p[0][1].Mul("75")}, {p[1][0].Mul("50"), p[1][1].Mul("75")}}); stepText(m) != want || e != api.OK {
		t.Errorf("Impedance: %s, %d, want %s", stepText(m), e, want)
	}
	p = times(stepMatrix(difference), inverse(sum))
	m, e = network.Admittance(n)
	if want := filled("(A/50) (B/50);(C/75) (D/75)", "A", string(p[0][0]), "B", string(p[0][1]), "C", string(p[1][0]), "D", string(p[1][1])); stepText(m) != want || e != api.OK {
		t.Errorf("Admittance: %s, %d, want %s", stepText(m), e, want)
	}
	z, q := list(t, "50 75"), stepMatrix("a b;c d")
	s, e := network.FromImpedance(z, q)
	hasSteps(t, "FromImpedance", s, e, stepText(times(inverse("((a/50)+1) ((b/75)+0);((c/50)+0) ((d/75)+1)"), stepMatrix("((a/50)-1) ((b/75)-0);((c/50)-0) ((d/75)-1)"))))
	s, e = network.FromAdmittance(z, q)
	hasSteps(t, "FromAdmittance", s, e, stepText(times(inverse("(1+(50*a)) (0+(50*b));(0+(75*c)) (1+(75*d))"), stepMatrix("(1-(50*a)) (0-(50*b));(0-(75*c)) (1-(75*d))"))))
	s, e = network.Renormalize(n, list(t, "100 25"))
	hasSteps(t, "Renormalize", s, e, stepText(times(stepMatrix("(-1+(3*a)) (0+(3*b));(0+(4/3*c)) (2/3+(4/3*d))"), inverse("(3+(-1*a)) (0+(-1*b));(0+(2/3*c)) (4/3+(2/3*d))"))))
}

func TestStepsOfModes(t *testing.T) {
	s, e := network.Mixed(stepNet(t, "50 60 50", "a b c;d e f;g h i"), [][2]int{{3, 1}})
	hasSteps(t, "Mixed", s, e, filled("(P+Q) R ((P-Q)*1/2);(f+d) e ((f-d)*1/2);(U+V) W ((U-V)*1/2)",
		"P", "((i+c)*1/2)", "Q", "((g+a)*1/2)", "R", "((h+b)*1/2)", "U", "(i-c)", "V", "(g-a)", "W", "(h-b)"))
	s, e = network.Single(stepNet(t, "25 60 100", "a b c;d e f;g h i"), [][2]int{{3, 1}})
	hasSteps(t, "Single", s, e, filled("((Q*1/2)-P) R (P+(Q*1/2));((d*1/2)-f) e (f+(d*1/2));((V*1/2)-U) W (U+(V*1/2))",
		"P", "(c-(i*1/2))", "Q", "(a-(g*1/2))", "R", "(b-(h*1/2))", "U", "((i*1/2)+c)", "V", "((g*1/2)+a)", "W", "((h*1/2)+b)"))
	// A second pair is blended in what the first one has left.
	n := stepNet(t, "50 50 70 70", "11 12 13 14;21 22 23 24;31 32 33 34;41 42 43 44")
	once, _ := network.Mixed(n, [][2]int{{1, 2}})
	twice, _ := network.Mixed(once, [][2]int{{4, 3}})
	s, e = network.Mixed(n, [][2]int{{1, 2}, {4, 3}})
	hasSteps(t, "Mixed of two pairs", s, e, stepText(elements(twice)))
	once, _ = network.Single(twice, [][2]int{{4, 3}})
	back, _ := network.Single(once, [][2]int{{1, 2}})
	s, e = network.Single(twice, [][2]int{{4, 3}, {1, 2}})
	hasSteps(t, "Single of two pairs", s, e, stepText(elements(back)))
	s, e = network.Mixed(n, nil)
	hasSteps(t, "Mixed without pairs", s, e, stepText(elements(n)))
	s, e = network.Single(n, nil)
	hasSteps(t, "Single without pairs", s, e, stepText(elements(n)))
}

func TestStepsOfSweeps(t *testing.T) {
	s, e := network.NewSweep(list(t, "1 4"), []network.Net[step]{stepNet(t, "50", "a"), stepNet(t, "50", "b")})
	if e != api.OK {
		t.Fatalf("NewSweep: %d", e)
	}
	for f, want := range map[string]string{"1": "a", "2": "(a+(1/3*(b-a)))", "4": "b"} {
		n, e := network.Between(s, parse(t, f))
		hasSteps(t, "Between at "+f, n, e, want)
	}
}
