package noise_test

import (
	"strings"
	"testing"

	"waveport/api"
	"waveport/noise"
	"waveport/num"
)

// step is a number type that writes down the steps. Only 0 is not Clear.
type step string

func (x step) Of(y num.Num) step { return step(y.Text()) }
func (x step) Add(y step) step   { return "(" + x + "+" + y + ")" }
func (x step) Sub(y step) step   { return "(" + x + "-" + y + ")" }
func (x step) Mul(y step) step   { return "(" + x + "*" + y + ")" }
func (x step) Neg() step         { return "neg" + x }
func (x step) Conj() step        { return x + "'" }
func (x step) Clear() bool       { return x != "0" }
func (x step) Same(y step) bool  { return x == y }
func (x step) Div(y step) (step, api.Errno) {
	if !y.Clear() {
		return "", api.ErrZero
	}
	return "(" + x + "/" + y + ")", api.OK
}

func stepMatrix(s string) [][]step {
	var m [][]step
	for _, row := range strings.Split(s, ";") {
		var l []step
		for _, w := range strings.Fields(row) {
			l = append(l, step(w))
		}
		m = append(m, l)
	}
	return m
}

func stepText(m [][]step) string {
	var rows []string
	for _, row := range m {
		var words []string
		for _, x := range row {
			words = append(words, string(x))
		}
		rows = append(rows, strings.Join(words, " "))
	}
	return strings.Join(rows, ";")
}

func stepNoisy(t *testing.T, z, s, c string) noise.Noisy[step] {
	t.Helper()
	return made(t, plain(t, list(t, z), stepMatrix(s)), stepMatrix(c))
}

// carried returns the steps of a matrix that is carried by another one.
func carried(c, p [][]step) [][]step {
	back, _ := num.Adjoint(p)
	left, _ := num.Product(p, c)
	m, _ := num.Product(left, back)
	return m
}

// hasSteps tests the steps of a correlation matrix.
func hasSteps(t *testing.T, what string, n noise.Noisy[step], e api.Errno, want [][]step) {
	t.Helper()
	if got := stepText(correlation(n)); got != stepText(want) || e != api.OK {
		t.Errorf("%s: %s, %d, want %s", what, got, e, stepText(want))
	}
}

// filled returns the matrix with a text in which some texts are replaced by others.
func filled(s string, pairs ...string) [][]step {
	return stepMatrix(strings.NewReplacer(pairs...).Replace(s))
}

func TestStepsOfOwn(t *testing.T) {
	n := plain(t, list(t, "50 75"), stepMatrix("a b;c d"))
	hasSteps(t, "Quiet", noise.Quiet(n), api.OK, stepMatrix("0 0;0 0"))
	x, e := noise.Own(plain(t, list(t, "50"), stepMatrix("a")), num.Int(290))
	hasSteps(t, "Own of one port", x, e, stepMatrix("(290*(50-((a*50)*a')))"))
	x, e = noise.Own(n, num.Int(290))
	hasSteps(t, "Own", x, e, filled("(290*(50-((A*a')+(B*b')))) (290*(0-((A*c')+(B*d'))));(290*(0-((C*a')+(D*b')))) (290*(75-((C*c')+(D*d'))))",
		"A", "((a*50)+(b*0))", "B", "((a*0)+(b*75))", "C", "((c*50)+(d*0))", "D", "((c*0)+(d*75))"))
}

func TestStepsOfConnections(t *testing.T) {
	x, e := noise.Stack(stepNoisy(t, "50", "a", "k"), stepNoisy(t, "50 50", "b c;d e", "l m;n o"))
	hasSteps(t, "Stack", x, e, stepMatrix("k 0 0;0 l m;0 n o"))
	n := stepNoisy(t, "50 50 50", "a b c;d e f;g h i", "k l m;n o p;q r s")
	c := stepMatrix("k l m;n o p;q r s")
	x, e = noise.Renumber(n, []int{3, 1, 2})
	hasSteps(t, "Renumber", x, e, stepMatrix("s q r;m k l;p n o"))
	x, e = noise.Join(n, nil)
	hasSteps(t, "Join without joints", x, e, c)
	// Joint 2, 3: the ports l are 2, 3, the ports o are 3, 2; m has the rows 1 - h, 0 - i and 0 - e, 1 - f.
	q, _ := num.Solve(stepMatrix("(1-h) (0-e);(0-i) (1-f)"), []step{"b", "c"})
	x, e = noise.Join(n, [][2]int{{2, 3}})
	hasSteps(t, "Join of 2 and 3", x, e, carried(c, [][]step{{"1", q[1], q[0]}}))
	q, _ = num.Solve(stepMatrix("(1-f) (0-i);(0-e) (1-h)"), []step{"c", "b"})
	x, e = noise.Join(n, [][2]int{{3, 2}})
	hasSteps(t, "Join of 3 and 2", x, e, carried(c, [][]step{{"1", q[0], q[1]}}))
	x, e = noise.Terminate(n, 2, "q", num.Int(3))
	a := filled("1 (b*(q/E)) 0;0 (h*(q/E)) 1", "E", "(1-(e*q))")
	w := carried(c, a)
	hasSteps(t, "Terminate", x, e, filled("(W+(R*(U*U'))) (X+(R*(U*V')));(Y+(R*(V*U'))) (Z+(R*(V*V')))",
		"W", string(w[0][0]), "X", string(w[0][1]), "Y", string(w[1][0]), "Z", string(w[1][1]), "R", "(150*(1-(q*q')))", "U", "(b*(1/(1-(e*q))))", "V", "(h*(1/(1-(e*q))))"))
}

// TestStepsOfTwoJoints has ports that are left between those that are joined.
func TestStepsOfTwoJoints(t *testing.T) {
	const c = "c11 c12 c13 c14 c15 c16;c21 c22 c23 c24 c25 c26;c31 c32 c33 c34 c35 c36;c41 c42 c43 c44 c45 c46;c51 c52 c53 c54 c55 c56;c61 c62 c63 c64 c65 c66"
	s := strings.ReplaceAll(c, "c", "s")
	x, e := noise.Join(stepNoisy(t, "5 5 5 5 5 5", s, c), [][2]int{{4, 2}, {1, 5}})
	// l is 4, 2, 1, 5 and o is 2, 4, 5, 1.
	m := stepMatrix("(1-s24) (0-s44) (0-s54) (0-s14);(0-s22) (1-s42) (0-s52) (0-s12);(0-s21) (0-s41) (1-s51) (0-s11);(0-s25) (0-s45) (0-s55) (1-s15)")
	q, _ := num.Solve(m, []step{"s34", "s32", "s31", "s35"})
	r, _ := num.Solve(m, []step{"s64", "s62", "s61", "s65"})
	hasSteps(t, "Join of two joints", x, e, carried(stepMatrix(c), [][]step{{q[3], q[0], "1", q[1], q[2], "0"}, {r[3], r[0], "0", r[1], r[2], "1"}}))
}

func TestStepsOfRenormalize(t *testing.T) {
	x, e := noise.Renormalize(stepNoisy(t, "50 75", "a b;c d", "k l;m n"), list(t, "100 25"))
	s := elements(x.Net())
	// r is 2 and 1/3.
	a := filled("(3/2-(A*-1/2)) neg(B*1/3);neg(C*-1/2) (2/3-(D*1/3))", "A", string(s[0][0]), "B", string(s[0][1]), "C", string(s[1][0]), "D", string(s[1][1]))
	hasSteps(t, "Renormalize", x, e, carried(stepMatrix("k l;m n"), a))
}

func TestStepsOfFactor(t *testing.T) {
	f, e := noise.Factor(stepNoisy(t, "50 75", "a b;c d", "k l;m n"), "g", num.Int(290))
	x := carried(stepMatrix("k l;m n"), stepMatrix("(c*g) (1-(g*a))"))[0][0]
	if want := "(1+(" + x + "/(((c*c')*14500)*(1-(g*g')))))"; f != want || e != api.OK {
		t.Errorf("Factor: %s, %d, want %s", f, e, want)
	}
}
