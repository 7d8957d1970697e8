package num_test

import (
	"testing"

	"waveport/api"
	"waveport/num"
)

func TestLeast(t *testing.T) {
	for _, c := range []struct {
		m, b, want string
		e          api.Errno
	}{
		{"1;1", "0 2i", "1i", api.OK},
		{"1i;1", "1 0", "-1/2i", api.OK},
		{"1 0;0 1;1 1", "1 2 0", "0 1", api.OK},
		{"1 1;1 -1", "3 1i", "3/2+1/2i 3/2-1/2i", api.OK},
		{"0;3", "5 1", "1/3", api.OK},
		{"1 1;1 1", "1 2", "", api.ErrSingular},
		{"0", "1", "", api.ErrSingular},
		{"1 2", "1", "", api.ErrSingular},
		{"1 1i;1i -1;2 2i", "1 2 3", "", api.ErrSingular},
	} {
		if x, e := num.Least(matrix(t, c.m), list(t, c.b)); listText(x) != c.want || e != c.e {
			t.Errorf("Least(%s, %s): %s, %d", c.m, c.b, listText(x), e)
		}
	}
}

// residue returns m x - b.
func residue(m [][]num.Num, x, b []num.Num) []num.Num {
	p, _ := num.Product(m, column(x))
	r := make([]num.Num, len(b))
	for i := range b {
		r[i] = p[i][0].Sub(b[i])
	}
	return r
}

func normSum(l []num.Num) num.Num {
	var sum num.Num
	for _, x := range l {
		sum = sum.Add(x.Norm())
	}
	return sum
}

// TestLeastSquares is P1.8.
func TestLeastSquares(t *testing.T) {
	d := dice(15)
	for i := range 120 {
		columns := i%4 + 1
		rows := columns + d.below(4)
		m, b := d.matrix(rows, columns), d.list(rows)
		rank, _ := num.Rank(m)
		x, e := num.Least(m, b)
		if rank < columns {
			if e != api.ErrSingular || len(x) != 0 {
				t.Errorf("Least of the rank %d: %s, %d", rank, matrixText(m), e)
			}
			continue
		}
		r := residue(m, x, b)
		adjoint, _ := num.Adjoint(m)
		p, _ := num.Product(adjoint, column(r))
		if e != api.OK || normSum(flat(p)).Clear() {
			t.Errorf("Least(%s, %s): %s, %d", matrixText(m), listText(b), listText(x), e)
		}
		other := append([]num.Num(nil), x...)
		other[d.below(columns)] = d.small().Add(parse(t, "1/1000"))
		if !sameList(other, x) && normSum(residue(m, other, b)).Cmp(normSum(r)) <= 0 {
			t.Errorf("Least(%s, %s): %s is no better than %s", matrixText(m), listText(b), listText(x), listText(other))
		}
		if rows == columns {
			if y, _ := num.Solve(m, b); !sameList(x, y) {
				t.Errorf("Least and Solve of %s", matrixText(m))
			}
		}
	}
}

func flat(m [][]num.Num) []num.Num {
	var l []num.Num
	for _, row := range m {
		l = append(l, row...)
	}
	return l
}

func TestForm(t *testing.T) {
	for _, c := range []struct{ h, w, want string }{
		{"1 2;2 1", "-1 1", "-2"}, {"5", "1i", "5"}, {"0 1;0 0", "1i 1", "-1i"}, {"0 0;1 0", "1i 1", "1i"}, {"0 1i;-1i 0", "1 1i", "-2"}, {"1 1i;2 3", "1+1i 2", "20+6i"},
	} {
		if f, e := num.Form(matrix(t, c.h), list(t, c.w)); f.Text() != c.want || e != api.OK {
			t.Errorf("Form(%s, %s): %s, %d", c.h, c.w, f.Text(), e)
		}
	}
}

// checkDefinite reports an answer of Definite that is not what it should be.
func checkDefinite(t *testing.T, h [][]num.Num, want bool) {
	t.Helper()
	ok, w, e := num.Definite(h)
	if ok != want || e != api.OK || ok && len(w) != 0 {
		t.Errorf("Definite(%s): %t, %s, %d", matrixText(h), ok, listText(w), e)
		return
	}
	if f, e := num.Form(h, w); !ok && (e != api.OK || !f.Real() || f.Cmp(num.Num{}) >= 0) {
		t.Errorf("Definite(%s): %s, with the form %s, %d", matrixText(h), listText(w), f.Text(), e)
	}
}

func TestDefinite(t *testing.T) {
	for s, want := range map[string]bool{
		"0": true, "3": true, "-1/1000": false, "0 0;0 0": true, "1 2;2 1": false, "2 1i;-1i 1": true, "1 1i;-1i 1": true, "1 1;1 1": true,
		"0 1;1 0": false, "0 1;1 5": false, "0 1i;-1i 100": false, "0 0;0 -1": false, "0 0;0 1": true, "5 0;0 -1": false, "-1 0;0 5": false, "0 1;1 -5": false,
		"1 1 1;1 1 1;1 1 1": true, "1 1 1;1 1 2;1 2 1": false, "1 1 1;1 1 1;1 1 0": false, "1 1 0;1 1 1;0 1 5": false, "0 0 0;0 0 1i;0 -1i 9": false,
		"0 0 0;0 2 1;0 1 2": true, "1 0 0 0;0 0 0 0;0 0 1 2;0 0 2 1": false, "2 -1 0;-1 2 -1;0 -1 2": true, "1 -1 0;-1 2 -1;0 -1 1": true, "1 -1 0;-1 2 -1;0 -1 999/1000": false,
	} {
		checkDefinite(t, matrix(t, s), want)
	}
	for _, s := range []string{"1i", "1 1i;1i 1", "1 2;3 1", "1+1i 0;0 1", "1 0;0 -1i", "-1 1;2 -1", "1 1i 0;1i 1 0;0 0 1"} {
		if ok, w, e := num.Definite(matrix(t, s)); ok || len(w) != 0 || e != api.ErrArg {
			t.Errorf("Definite(%s): %t, %d", s, ok, e)
		}
	}
}

func sumOf(a, b [][]num.Num) [][]num.Num {
	m := make([][]num.Num, len(a))
	for i := range a {
		for k := range a[i] {
			m[i] = append(m[i], a[i][k].Add(b[i][k]))
		}
	}
	return m
}

// gram returns Adjoint(m) h m.
func gram(h, m [][]num.Num) [][]num.Num {
	adjoint, _ := num.Adjoint(m)
	p, _ := num.Product(adjoint, h)
	p, _ = num.Product(p, m)
	return p
}

// TestDefiniteness is P1.9.
func TestDefiniteness(t *testing.T) {
	d := dice(16)
	for i := range 150 {
		n := i%5 + 1
		m, k, a := d.matrix(d.below(n)+1, n), d.matrix(d.below(n)+1, n), d.matrix(n, d.below(5)+1)
		h := gram(num.Identity[num.Num](len(m)), m)
		checkDefinite(t, h, true)
		checkDefinite(t, sumOf(h, gram(num.Identity[num.Num](len(k)), k)), true)
		checkDefinite(t, gram(h, a), true)
		// A negative square is semidefinite only as far as h covers it.
		less := sumOf(h, gram([][]num.Num{{num.Int(-1000000)}}, k[:1]))
		if normSum(k[0]).Clear() {
			checkDefinite(t, less, false)
		}
		s := d.matrix(n, n)
		adjoint, _ := num.Adjoint(s)
		checkAgainstMinors(t, sumOf(s, adjoint))
	}
}

// checkAgainstMinors compares Definite with the principal minors: a Hermitian matrix is positive semidefinite exactly if none of them is below 0.
func checkAgainstMinors(t *testing.T, h [][]num.Num) {
	t.Helper()
	want := true
	for set := 1; set < 1<<len(h); set++ {
		var minor [][]num.Num
		for i := range h {
			var row []num.Num
			for k := range h {
				if set>>i&1 == 1 && set>>k&1 == 1 {
					row = append(row, h[i][k])
				}
			}
			if len(row) > 0 {
				minor = append(minor, row)
			}
		}
		if det, _ := num.Det(minor); det.Cmp(num.Num{}) < 0 {
			want = false
		}
	}
	checkDefinite(t, h, want)
}
