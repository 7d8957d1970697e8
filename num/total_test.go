package num_test

import (
	"testing"

	"waveport/api"
	"waveport/num"
)

// The tests of this file are about the rules that hold for all functions: P1, P2 and R1 to R4.

// TestArgumentsStay calls the functions of matrices, changes the results, and looks at the arguments.
func TestArgumentsStay(t *testing.T) {
	big := matrix(t, "0 1i 2 7;1-1i 0 3 7;2 3 1i 7")
	m := [][]num.Num{big[0][:3], big[1][:3], big[2][:3]}
	h := matrix(t, "0 1i 0;-1i 1 2;0 2 4")
	b := list(t, "1 2 3 7")
	text := matrixText(big) + matrixText(h) + listText(b)
	spoil := func(l ...[]num.Num) {
		for _, row := range l {
			for k := range row[:cap(row)] {
				row[:cap(row)][k] = num.Int(99)
			}
		}
	}
	lifted := num.Lift[num.Num](m)
	product, _ := num.Product(m, h)
	same, _ := num.Product(m, num.Identity[num.Num](3))
	adjoint, _ := num.Adjoint(h)
	num.Det(m)
	x, _ := num.Solve(m, b[:3])
	y, _ := num.Solve(num.Identity[num.Num](3), b[:3])
	inverse, _ := num.Inverse(m)
	num.Rank(m)
	z, _ := num.Least(m, b[:3])
	num.Form(h, b[:3])
	_, w, _ := num.Definite(h)
	spoil(x, y, z, w)
	for _, r := range [][][]num.Num{lifted, product, same, adjoint, inverse} {
		spoil(r...)
	}
	if matrixText(big)+matrixText(h)+listText(b) != text {
		t.Error("an argument was changed")
	}
	if m := num.Identity[num.Num](2); !m[0][0].Same(num.Int(1)) {
		t.Error("Identity shares memory")
	}
	rows := num.Lift[num.Num](make([][]num.Num, 2))
	if len(rows) != 2 {
		t.Error("Lift of empty rows")
	}
}

// TestRowsApart changes one row of a result and looks at the others.
func TestRowsApart(t *testing.T) {
	m := matrix(t, "1 2;3 5")
	product, _ := num.Product(m, m)
	adjoint, _ := num.Adjoint(m)
	inverse, _ := num.Inverse(m)
	for i, r := range [][][]num.Num{num.Lift[num.Num](m), num.Identity[num.Num](2), product, adjoint, inverse} {
		want := listText(r[1])
		_ = append(r[0], num.Int(99))
		if listText(r[1]) != want {
			t.Errorf("result %d: rows share memory", i)
		}
	}
}

// TestNumbersStay computes with a number, and looks at it again.
func TestNumbersStay(t *testing.T) {
	d := dice(17)
	for i := range 60 {
		x, y := number(t, d.pair(50+40*i)), number(t, d.pair(50+40*i))
		before, other := x.Text(), y.Text()
		all := []num.Num{x.Add(y), x.Sub(y), x.Mul(y), x.Neg(), x.Conj(), x.Re(), x.Im(), x.Norm(), x.Floor(3), x.Of(y)}
		q, _ := x.Div(y)
		r, _ := x.Mul(x).Sqrt()
		all = append(all, q, r)
		var texts []string
		for _, z := range all {
			texts = append(texts, z.Text())
		}
		for k, z := range all {
			z.Add(z).Mul(z).Sub(y)
			z.Near()
			if z.Text() != texts[k] {
				t.Errorf("result %d for %s and %s changed", k, before, other)
			}
		}
		if x.Text() != before || y.Text() != other {
			t.Errorf("%s or %s changed", before, other)
		}
	}
}

// TestErrorsHaveNoResults is R2.
func TestErrorsHaveNoResults(t *testing.T) {
	one := num.Int(1)
	a, e1 := one.Div(num.Num{})
	b, e2 := num.New(1, 2, 0)
	c, e3 := num.Parse("1/0")
	d, e4 := num.Parse("5+")
	m, e5 := num.Product(matrix(t, "1 2"), matrix(t, "1 2"))
	x, e6 := num.Solve(matrix(t, "0"), list(t, "1"))
	v, e7 := num.Inverse(matrix(t, "0"))
	ok, w, e8 := num.Definite(matrix(t, "-1i"))
	r, found := num.Int(2).Sqrt()
	for i, e := range []api.Errno{e1, e2, e3, e4, e5, e6, e7, e8} {
		if want := []api.Errno{api.ErrZero, api.ErrZero, api.ErrZero, api.ErrForm, api.ErrSize, api.ErrSingular, api.ErrSingular, api.ErrArg}[i]; e != want {
			t.Errorf("error %d: %d", i, e)
		}
	}
	if a.Clear() || b.Clear() || c.Clear() || d.Clear() || len(m)+len(x)+len(v)+len(w) != 0 || ok || r.Clear() || found {
		t.Error("a result with an error")
	}
}
