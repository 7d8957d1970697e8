package box_test

import (
	"testing"

	"waveport/api"
	"waveport/box"
	"waveport/num"
)

// The methods of Rooted contain those of Field.
var _ num.Rooted[box.Box] = box.Box{}

func isRooted[T num.Rooted[T]](T) bool { return true }

// small returns a number with small parts.
func (d *dice) small() num.Num {
	x, _ := num.New(int64(d.below(19)-9), int64(d.below(19)-9), int64(d.below(4)+1))
	return x
}

func (d *dice) matrix(rows, columns int) [][]num.Num {
	m := make([][]num.Num, rows)
	for i := range m {
		m[i] = make([]num.Num, columns)
		for k := range m[i] {
			m[i][k] = d.small()
		}
	}
	return m
}

// widened returns boxes around boxes, each of another width.
func (d *dice) widened(t testing.TB, m [][]box.Box) [][]box.Box {
	out := make([][]box.Box, len(m))
	for i, row := range m {
		for _, b := range row {
			w := d.width()
			out[i] = append(out[i], b.Add(made(t, complex(-w, -w), complex(w, w))))
		}
	}
	return out
}

func enclose(t testing.TB, what string, boxes [][]box.Box, m [][]num.Num) {
	t.Helper()
	if len(boxes) != len(m) {
		t.Fatalf("%s: %d rows, want %d", what, len(boxes), len(m))
	}
	for i := range m {
		if len(boxes[i]) != len(m[i]) {
			t.Fatalf("%s: row %d with %d elements, want %d", what, i, len(boxes[i]), len(m[i]))
		}
		for k, x := range m[i] {
			if !boxes[i][k].Has(x) {
				t.Errorf("%s: %v does not have %s", what, boxes[i][k], x.Text())
			}
		}
	}
}

// TestMatricesEnclose is P3 for the generic functions of package num.
func TestMatricesEnclose(t *testing.T) {
	if !isRooted(box.Box{}) {
		t.Error("Box is not Rooted")
	}
	d := dice(16)
	for i := range 200 {
		n := i%4 + 1
		m, o := d.matrix(n, n), d.matrix(n, i%3+1)
		boxes, others := num.Lift[box.Box](m), num.Lift[box.Box](o)
		enclose(t, "Lift", boxes, m)
		if d.below(3) > 0 {
			boxes, others = d.widened(t, boxes), d.widened(t, others)
		}
		product, _ := num.Product(m, o)
		got, e := num.Product(boxes, others)
		if e != api.OK {
			t.Errorf("Product: %d", e)
		}
		enclose(t, "Product", got, product)
		adjoint, _ := num.Adjoint(o)
		got, _ = num.Adjoint(others)
		enclose(t, "Adjoint", got, adjoint)
		encloseSystem(t, m, o, boxes, others)
	}
	enclose(t, "Identity", num.Identity[box.Box](3), num.Identity[num.Num](3))
}

// encloseSystem tests the functions that eliminate; over boxes they may be unable to.
func encloseSystem(t *testing.T, m, o [][]num.Num, boxes, others [][]box.Box) {
	t.Helper()
	det, _ := num.Det(m)
	if got, e := num.Det(boxes); e == api.OK && !got.Has(det) {
		t.Errorf("Det: %v does not have %s", got, det.Text())
	}
	inverse, f := num.Inverse(m)
	if got, e := num.Inverse(boxes); e == api.OK {
		if f != api.OK {
			t.Errorf("Inverse: %d, and none over boxes", f)
		}
		enclose(t, "Inverse", got, inverse)
	}
	var right []num.Num
	var rights []box.Box
	for i := range o {
		right, rights = append(right, o[i][0]), append(rights, others[i][0])
	}
	x, _ := num.Solve(m, right)
	if got, e := num.Solve(boxes, rights); e == api.OK {
		enclose(t, "Solve", [][]box.Box{got}, [][]num.Num{x})
	}
}

// TestMatrixErrors has boxes of which none can be a pivot.
func TestMatrixErrors(t *testing.T) {
	one, wide, half := made(t, 1, 1), made(t, -1, 1), made(t, -0.5, 0.5)
	for _, c := range []struct {
		m    [][]box.Box
		want api.Errno
	}{
		{[][]box.Box{{one, wide}, {wide, one}}, api.ErrSingular}, // the last pivot contains 0
		{[][]box.Box{{wide}}, api.ErrSingular},
		{[][]box.Box{{wide, one}, {one, wide}}, api.ErrSingular},
		{[][]box.Box{{half, one}, {one, half}}, api.OK}, // the rows are exchanged
		{[][]box.Box{{box.Box{}, one}, {box.Box{}, wide}}, api.OK},
	} {
		det, e := num.Det(c.m)
		if e != c.want {
			t.Errorf("Det of %v: %d, want %d", c.m, e, c.want)
		}
		if e != api.OK && !det.Same(box.Box{}) {
			t.Errorf("Det of %v with an error: %v", c.m, det)
		}
	}
	det, _ := num.Det([][]box.Box{{half, one}, {one, half}})
	hasCorners(t, det, -1.25, -0.75, "Det with an exchange")
	det, _ = num.Det([][]box.Box{{box.Box{}, one}, {box.Box{}, wide}})
	hasCorners(t, det, 0, 0, "Det with a column of 0")
	if x, e := num.Solve([][]box.Box{{wide}}, []box.Box{one}); e != api.ErrSingular || len(x) != 0 {
		t.Errorf("Solve: %v, %d", x, e)
	}
	if m, e := num.Inverse([][]box.Box{{wide}}); e != api.ErrSingular || len(m) != 0 {
		t.Errorf("Inverse: %v, %d", m, e)
	}
}

// TestValuesStay is R4: an operation changes neither operand.
func TestValuesStay(t *testing.T) {
	b, c := made(t, 1-1i, 2+3i), made(t, -3+1i, 5+2i)
	b.Add(c).Sub(b).Mul(c).Hull(b).Neg().Conj()
	b.Div(c)
	b.Meet(c)
	b.Sqrt()
	hasCorners(t, b, 1-1i, 2+3i, "first operand")
	hasCorners(t, c, -3+1i, 5+2i, "second operand")
}
