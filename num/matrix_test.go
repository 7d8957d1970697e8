package num_test

import (
	"strings"
	"testing"

	"waveport/api"
	"waveport/num"
)

// step is a number type that writes down the steps. What begins with ? is not Clear, and not 0 for sure.
type step string

func (x step) Of(y num.Num) step { return step(y.Text()) }
func (x step) Add(y step) step   { return "(" + x + "+" + y + ")" }
func (x step) Sub(y step) step   { return "(" + x + "-" + y + ")" }
func (x step) Mul(y step) step   { return x + "*" + y }
func (x step) Neg() step         { return "neg" + x }
func (x step) Conj() step        { return x + "'" }
func (x step) Clear() bool       { return x != "0" && x[0] != '?' }
func (x step) Same(y step) bool  { return x == y }
func (x step) Div(y step) (step, api.Errno) {
	if !y.Clear() {
		return "", api.ErrZero
	}
	return "(" + x + "/" + y + ")", api.OK
}

func stepMatrix(s string) [][]step {
	var m [][]step
	for _, row := range strings.Split(s, ";") {
		var l []step
		for _, w := range strings.Fields(row) {
			l = append(l, step(w))
		}
		m = append(m, l)
	}
	return m
}

func stepText(m [][]step) string {
	var rows []string
	for _, row := range m {
		var words []string
		for _, x := range row {
			words = append(words, string(x))
		}
		rows = append(rows, strings.Join(words, " "))
	}
	return strings.Join(rows, ";")
}

func TestOrderOfSteps(t *testing.T) {
	p, e := num.Product(stepMatrix("a b c;d e f"), stepMatrix("u;v;w"))
	if stepText(p) != "((a*u+b*v)+c*w);((d*u+e*v)+f*w)" || e != api.OK {
		t.Errorf("Product: %s, %d", stepText(p), e)
	}
	if p, e := num.Adjoint(stepMatrix("a b;c d;e f")); stepText(p) != "a' c' e';b' d' f'" || e != api.OK {
		t.Errorf("Adjoint: %s, %d", stepText(p), e)
	}
	for m, want := range map[string]string{
		"a":                 "a",
		"a b;c d":           "a*(d-(c/a)*b)",
		"0 b;c d":           "negc*(b-(0/c)*d)",
		"?a b;c d":          "negc*(b-(?a/c)*d)",
		"0 b;0 d":           "0",
		"0":                 "0",
		"a b c;d e f;g h i": "a*(e-(d/a)*b)*((i-(g/a)*c)-((h-(g/a)*b)/(e-(d/a)*b))*(f-(d/a)*c))",
		"0 b c;0 e f;g h i": "negg*(e-(0/g)*h)*((c-(0/g)*i)-((b-(0/g)*h)/(e-(0/g)*h))*(f-(0/g)*i))",
	} {
		if d, e := num.Det(stepMatrix(m)); string(d) != want || e != api.OK {
			t.Errorf("Det of %s: %s, %d", m, d, e)
		}
	}
	for _, m := range []string{"?a", "?a b;0 d", "0 b;?a d", "?a b;?c d"} {
		if d, e := num.Det(stepMatrix(m)); d != "" || e != api.ErrSingular {
			t.Errorf("Det of %s: %s, %d", m, d, e)
		}
	}
}

func TestStepsOfSolve(t *testing.T) {
	for _, c := range []struct{ m, b, want string }{
		{"a", "u", "(u/a)"},
		{"a b;c d", "u v", "((u-b*((v-(c/a)*u)/(d-(c/a)*b)))/a) ((v-(c/a)*u)/(d-(c/a)*b))"},
		{"?a b;c d", "u v", "((v-d*((u-(?a/c)*v)/(b-(?a/c)*d)))/c) ((u-(?a/c)*v)/(b-(?a/c)*d))"},
	} {
		x, e := num.Solve(stepMatrix(c.m), stepMatrix(c.b)[0])
		if e != api.OK || stepText([][]step{x}) != c.want {
			t.Errorf("Solve of %s: %s, %d", c.m, stepText([][]step{x}), e)
		}
	}
	x, e := num.Solve(stepMatrix("a b c;d e f;g h i"), stepMatrix("u v w")[0])
	if e != api.OK || x[0] != "(((u-b*"+x[1]+")-c*"+x[2]+")/a)" {
		t.Errorf("Solve with three rows: %s, %d", stepText([][]step{x}), e)
	}
	for _, m := range []string{"?a", "0", "?a b;0 d", "0 b;0 d"} {
		n := len(stepMatrix(m))
		if x, e := num.Solve(stepMatrix(m), make([]step, n)); len(x) != 0 || e != api.ErrSingular {
			t.Errorf("Solve of %s: %d", m, e)
		}
		if x, e := num.Inverse(stepMatrix(m)); len(x) != 0 || e != api.ErrSingular {
			t.Errorf("Inverse of %s: %d", m, e)
		}
	}
	// A column of the inverse is what Solve makes of that of the identity.
	for _, s := range []string{"a", "a b;c d", "0 b;c d", "?a b c;d e f;g h i"} {
		m := stepMatrix(s)
		inverse, e := num.Inverse(m)
		identity := num.Identity[step](len(m))
		for k := range m {
			var b, column []step
			for i := range m {
				b = append(b, identity[i][k])
				column = append(column, inverse[i][k])
			}
			if x, f := num.Solve(m, b); stepText([][]step{x}) != stepText([][]step{column}) || e != api.OK || f != api.OK {
				t.Errorf("Inverse of %s: %s", s, stepText(inverse))
			}
		}
	}
}

func TestLiftAndIdentity(t *testing.T) {
	if m := num.Lift[step](matrix(t, "1 2i;3;;1/2 0 1")); stepText(m) != "1 2i;3;;1/2 0 1" {
		t.Errorf("Lift: %s", stepText(m))
	}
	if len(num.Lift[step](nil)) != 0 {
		t.Error("Lift of nothing")
	}
	long := num.Lift[num.Num]([][]num.Num{make([]num.Num, 40)})
	if len(long) != 1 || len(long[0]) != 40 {
		t.Error("Lift of a long row")
	}
	if m := num.Identity[step](3); stepText(m) != "1 0 0;0 1 0;0 0 1" {
		t.Errorf("Identity: %s", stepText(m))
	}
	for n, want := range map[int]int{-1: 0, 0: 0, 1: 1, 32: 32, 33: 32, 1 << 40: 32, -1 << 63: 0} {
		m := num.Identity[num.Num](n)
		if len(m) != want || want > 0 && (len(m[want-1]) != want || !m[want-1][want-1].Same(num.Int(1))) {
			t.Errorf("Identity(%d): %d rows", n, len(m))
		}
	}
}

func TestDetSolveInverseRank(t *testing.T) {
	for _, c := range []struct {
		m, det  string
		rank    int
		inverse string
		e       api.Errno
	}{
		{"1 1i;2 3", "3-2i", 2, "9/13+6/13i 2/13-3/13i;-6/13-4/13i 3/13+2/13i", api.OK},
		{"0 1;1 0", "-1", 2, "0 1;1 0", api.OK},
		{"0 0 1;1 0 0;0 1 0", "1", 3, "0 1 0;0 0 1;1 0 0", api.OK},
		{"0 0 1;0 1 0;1 0 0", "-1", 3, "0 0 1;0 1 0;1 0 0", api.OK},
		{"0 0 0 1;1 0 0 0;0 1 0 0;0 0 1 0", "-1", 4, "0 1 0 0;0 0 1 0;0 0 0 1;1 0 0 0", api.OK},
		{"0 0 0 0 1;1 0 0 0 0;0 1 0 0 0;0 0 1 0 0;0 0 0 1 0", "1", 5, "0 1 0 0 0;0 0 1 0 0;0 0 0 1 0;0 0 0 0 1;1 0 0 0 0", api.OK},
		{"2i", "2i", 1, "-1/2i", api.OK},
		{"0", "0", 0, "", api.ErrSingular},
		{"1 2;2 4", "0", 1, "", api.ErrSingular},
		{"0 1;0 2", "0", 1, "", api.ErrSingular},
		{"1 1i;1i -1", "0", 1, "", api.ErrSingular},
		{"1 2 3;4 5 6;7 8 9", "0", 2, "", api.ErrSingular},
	} {
		m := matrix(t, c.m)
		d, e := num.Det(m)
		r, f := num.Rank(m)
		v, g := num.Inverse(m)
		if d.Text() != c.det || r != c.rank || matrixText(v) != c.inverse || e != api.OK || f != api.OK || g != c.e {
			t.Errorf("%s: %s %d, %d %d, %s %d", c.m, d.Text(), e, r, f, matrixText(v), g)
		}
	}
	x, e := num.Solve(matrix(t, "1 1;1 -1"), list(t, "3 1i"))
	if listText(x) != "3/2+1/2i 3/2-1/2i" || e != api.OK {
		t.Errorf("Solve: %s, %d", listText(x), e)
	}
	if x, e := num.Solve(matrix(t, "1 2;2 4"), list(t, "1 2")); len(x) != 0 || e != api.ErrSingular {
		t.Errorf("Solve: %s, %d", listText(x), e)
	}
	for s, want := range map[string]int{"1 2;2 4;0 1": 2, "0 0 0": 0, "0 0 5": 1, "1 2 3;2 4 6": 1, "0 1 2;0 2 4;0 0 1": 2, "1;0;1i": 1, "0 1i;1 0;1 1": 2} {
		if r, e := num.Rank(matrix(t, s)); r != want || e != api.OK {
			t.Errorf("Rank of %s: %d, %d", s, r, e)
		}
	}
}

// TestEmptyMatrices has matrices without rows, and without columns.
func TestEmptyMatrices(t *testing.T) {
	for _, none := range [][][]num.Num{nil, {}} {
		d, e1 := num.Det(none)
		x, e2 := num.Solve(none, nil)
		v, e3 := num.Inverse(none)
		r, e4 := num.Rank(none)
		a, e5 := num.Adjoint(none)
		p, e6 := num.Product(none, none)
		l, e7 := num.Least(none, nil)
		f, e8 := num.Form(none, nil)
		ok, w, e9 := num.Definite(none)
		if d.Text() != "1" || len(x)+len(v)+r+len(a)+len(p)+len(l)+len(w) != 0 || f.Clear() || !ok || e1+e2+e3+e4+e5+e6+e7+e8+e9 != api.OK {
			t.Error("a matrix without rows", d.Text(), e1, e2, e3, e4, e5, e6, e7, e8, e9)
		}
	}
	wide := [][]num.Num{{}, nil, {}}
	if p, e := num.Product(wide, nil); len(p) != 3 || len(p[0]) != 0 || e != api.OK {
		t.Errorf("Product of rows without columns: %d rows, %d", len(p), e)
	}
	if p, e := num.Adjoint(wide); len(p) != 0 || e != api.OK {
		t.Errorf("Adjoint of rows without columns: %d rows, %d", len(p), e)
	}
	if r, e := num.Rank(wide); r != 0 || e != api.OK {
		t.Errorf("Rank of rows without columns: %d, %d", r, e)
	}
	if x, e := num.Least(wide, list(t, "1 2 3")); len(x) != 0 || e != api.OK {
		t.Errorf("Least of rows without columns: %d, %d", len(x), e)
	}
	_, e1 := num.Least(wide, list(t, "1 2"))
	_, e2 := num.Det(wide)
	_, e3 := num.Product(nil, matrix(t, "1 2"))
	_, e4 := num.Product(wide, wide)
	if e1 != api.ErrSize || e2 != api.ErrSize || e3 != api.ErrSize || e4 != api.ErrSize {
		t.Error("sizes of matrices without columns", e1, e2, e3, e4)
	}
}

// TestSizes has arguments whose sizes are wrong, also where another error applies.
func TestSizes(t *testing.T) {
	line := make([]num.Num, 33)
	bad := map[string][][]num.Num{"uneven": matrix(t, "1 2;3"), "uneven at the end": matrix(t, "1 2;3 4;5 6 7"), "an empty row": matrix(t, "1;"), "33 rows": make([][]num.Num, 33), "33 columns": {line}}
	for name, m := range bad {
		b := make([]num.Num, len(m))
		_, e1 := num.Product(m, matrix(t, "1"))
		_, e2 := num.Product(matrix(t, "1"), m)
		_, e3 := num.Adjoint(m)
		d, e4 := num.Det(m)
		_, e5 := num.Solve(m, b)
		_, e6 := num.Inverse(m)
		r, e7 := num.Rank(m)
		_, e8 := num.Least(m, b)
		f, e9 := num.Form(m, b)
		ok, w, e10 := num.Definite(m)
		for i, e := range []api.Errno{e1, e2, e3, e4, e5, e6, e7, e8, e9, e10} {
			if e != api.ErrSize {
				t.Errorf("%s, call %d: %d", name, i+1, e)
			}
		}
		if d.Clear() || r != 0 || f.Clear() || ok || len(w) != 0 {
			t.Errorf("%s: a result with an error", name)
		}
	}
	side := num.Identity[num.Num](32)
	if _, e := num.Product(side, side); e != api.OK {
		t.Errorf("Product with 32 rows: %d", e)
	}
	two := matrix(t, "1 0;0 0")
	for _, b := range [][]num.Num{nil, list(t, "1"), list(t, "1 2 3")} {
		_, e1 := num.Solve(two, b)
		_, e2 := num.Least(two, b)
		_, e3 := num.Form(two, b)
		if e1 != api.ErrSize || e2 != api.ErrSize || e3 != api.ErrSize {
			t.Errorf("a vector of %d: %d, %d, %d", len(b), e1, e2, e3)
		}
	}
	wide := matrix(t, "1 2 3;4 5 6")
	_, e1 := num.Det(wide)
	_, e2 := num.Solve(wide, list(t, "1 2"))
	_, e3 := num.Inverse(wide)
	_, e4 := num.Form(wide, list(t, "1 2"))
	_, _, e5 := num.Definite(wide)
	_, e6 := num.Product(wide, wide)
	for i, e := range []api.Errno{e1, e2, e3, e4, e5, e6} {
		if e != api.ErrSize {
			t.Errorf("a wide matrix, call %d: %d", i+1, e)
		}
	}
}

// TestSystems is P1.7.
func TestSystems(t *testing.T) {
	d := dice(12)
	for i := range 150 {
		n := i%6 + 1
		m, k, b := d.matrix(n, n), d.matrix(n, n), d.list(n)
		if i%5 == 0 { // dependent rows
			m[n-1] = append([]num.Num(nil), m[0]...)
		}
		if i%4 == 0 {
			m[0][0] = num.Num{}
		}
		det, e := num.Det(m)
		detK, _ := num.Det(k)
		rank, _ := num.Rank(m)
		x, f := num.Solve(m, b)
		inverse, g := num.Inverse(m)
		if e != api.OK || det.Clear() != (rank == n) || det.Clear() != (f == api.OK) || f != g || f != api.OK && f != api.ErrSingular {
			t.Fatalf("%s: %s, %d, %d, %d, %d", matrixText(m), det.Text(), e, rank, f, g)
		}
		mk, _ := num.Product(m, k)
		if p, _ := num.Det(mk); !p.Same(det.Mul(detK)) {
			t.Errorf("Det of the product of %s and %s", matrixText(m), matrixText(k))
		}
		if n > 1 {
			swapped := append([][]num.Num(nil), m...)
			swapped[0], swapped[n-1] = swapped[n-1], swapped[0]
			if p, _ := num.Det(swapped); !p.Same(det.Neg()) {
				t.Errorf("Det of %s with rows exchanged", matrixText(m))
			}
		}
		adjoint, _ := num.Adjoint(m)
		if p, _ := num.Det(adjoint); !p.Same(det.Conj()) {
			t.Errorf("Det of the adjoint of %s", matrixText(m))
		}
		if r, _ := num.Rank(adjoint); r != rank {
			t.Errorf("Rank of the adjoint of %s", matrixText(m))
		}
		if f != api.OK {
			continue
		}
		if y, _ := num.Product(m, column(x)); !sameMatrix(y, column(b)) {
			t.Errorf("Solve(%s, %s): %s", matrixText(m), listText(b), listText(x))
		}
		left, _ := num.Product(inverse, m)
		right, _ := num.Product(m, inverse)
		if one := num.Identity[num.Num](n); !sameMatrix(left, one) || !sameMatrix(right, one) {
			t.Errorf("Inverse of %s: %s", matrixText(m), matrixText(inverse))
		}
	}
}

func column(l []num.Num) [][]num.Num {
	m := make([][]num.Num, len(l))
	for i, x := range l {
		m[i] = []num.Num{x}
	}
	return m
}

// TestRankOfProducts has matrices of a known rank: products of narrow ones.
func TestRankOfProducts(t *testing.T) {
	d := dice(13)
	for range 60 {
		rows, columns, inner := d.below(6)+1, d.below(6)+1, d.below(4)+1
		a, b := d.matrix(rows, inner), d.matrix(inner, columns)
		ra, _ := num.Rank(a)
		rb, _ := num.Rank(b)
		m, _ := num.Product(a, b)
		r, e := num.Rank(m)
		if e != api.OK || r > min(ra, rb) || r < ra+rb-inner {
			t.Errorf("Rank of the product of %s and %s: %d", matrixText(a), matrixText(b), r)
		}
	}
}

// TestFullSide solves systems of the greatest side.
func TestFullSide(t *testing.T) {
	d := dice(14)
	m, b := d.matrix(32, 32), d.list(32)
	x, e := num.Solve(m, b)
	if y, _ := num.Product(m, column(x)); e != api.OK || !sameMatrix(y, column(b)) {
		t.Errorf("Solve with 32 rows: %d", e)
	}
	for i := range m { // of rank 31, and not at the end
		m[i][3] = m[i][20].Mul(num.Int(7)).Add(m[i][9])
	}
	r, _ := num.Rank(m)
	det, _ := num.Det(m)
	if _, e := num.Solve(m, b); r != 31 || det.Clear() || e != api.ErrSingular {
		t.Errorf("32 rows of rank 31: %d, %s, %d", r, det.Text(), e)
	}
}
