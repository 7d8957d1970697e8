package transform_test

import (
	"testing"

	"waveport/api"
	"waveport/box"
	"waveport/num"
	"waveport/transform"
)

// encloses tests that boxes contain numbers.
func encloses(t testing.TB, what string, l []num.Num, e api.Errno, b []box.Box, f api.Errno) {
	t.Helper()
	if e != api.OK || f != api.OK || len(l) != len(b) {
		t.Errorf("%s: %d numbers, %d, and %d boxes, %d", what, len(l), e, len(b), f)
		return
	}
	for k, x := range l {
		if !b[k].Has(x) {
			t.Errorf("%s, %d: %s is not within %v, %v", what, k, x.Text(), b[k].Lo(), b[k].Hi())
		}
	}
}

// TestEnclosure is P3 for all functions.
func TestEnclosure(t *testing.T) {
	d := dice(17)
	for i := range 60 {
		n := []int{1, 2, 4, 8}[i%4]
		x, y, dc := d.list(n), d.list(n), d.small()
		b, c, dcBox := d.boxes(x), d.boxes(y), d.box(dc)
		for i, f := range functions[num.Num]() {
			l, e := f.f(x, y)
			m, g := functions[box.Box]()[i].f(b, c)
			encloses(t, f.name, l, e, m, g)
		}
		gate, by := d.gate(n), d.below(20)-10
		both := func(what string, number func() ([]num.Num, api.Errno), boxes func() ([]box.Box, api.Errno)) {
			t.Helper()
			l, e := number()
			m, f := boxes()
			encloses(t, what, l, e, m, f)
		}
		both("Weigh", func() ([]num.Num, api.Errno) { return transform.Weigh(x, y) }, func() ([]box.Box, api.Errno) { return transform.Weigh(b, y) })
		both("Times", func() ([]num.Num, api.Errno) { return transform.Times(x, y) }, func() ([]box.Box, api.Errno) { return transform.Times(b, c) })
		both("Cut", func() ([]num.Num, api.Errno) { return transform.Cut(x, gate) }, func() ([]box.Box, api.Errno) { return transform.Cut(b, gate) })
		both("Gated", func() ([]num.Num, api.Errno) { return transform.Gated(x, y, gate) }, func() ([]box.Box, api.Errno) { return transform.Gated(b, c, gate) })
		both("Shift", func() ([]num.Num, api.Errno) { return transform.Shift(x, by) }, func() ([]box.Box, api.Errno) { return transform.Shift(b, by) })
		both("Convolve", func() ([]num.Num, api.Errno) { return transform.Convolve(x, y) }, func() ([]box.Box, api.Errno) { return transform.Convolve(b, c) })
		both("Steps", func() ([]num.Num, api.Errno) { return transform.Steps(x) }, func() ([]box.Box, api.Errno) { return transform.Steps(b) })
		both("Extend", func() ([]num.Num, api.Errno) { return transform.Extend(x[1:n/2+n%2], dc) }, func() ([]box.Box, api.Errno) { return transform.Extend(b[1:n/2+n%2], dcBox) })
		p, e := transform.Energy(x)
		q, f := transform.Energy(b)
		encloses(t, "Energy", []num.Num{p}, e, []box.Box{q}, f)
		if n > 1 {
			p, e = transform.Zero(x)
			q, f = transform.Zero(b)
			encloses(t, "Zero", []num.Num{p}, e, []box.Box{q}, f)
		}
		// What is touched in numbers is touched in the boxes around them.
		at, e := transform.Touched(x, gate, by)
		in, f := transform.Touched(b, gate, by)
		if len(in) < len(at) || e != api.OK || f != api.OK {
			t.Errorf("Touched: %v, %d, and %v, %d", at, e, in, f)
		}
	}
}

// TestGridEnclosure is P3 for grids.
func TestGridEnclosure(t *testing.T) {
	d := dice(18)
	for range 20 {
		g, w, v := d.grid(t, 4, 2), d.list(2), d.list(4)
		var rows [][]box.Box
		for _, row := range cells(g) {
			rows = append(rows, d.boxes(row))
		}
		h, x, y := made(t, rows), d.boxes(w), d.boxes(v)
		a, e := transform.ForwardGrid(g, w, v)
		b, f := transform.ForwardGrid(h, x, y)
		for i, row := range cells(a) {
			boxes, _ := b.Row(i)
			encloses(t, "ForwardGrid", row, e, boxes, f)
		}
		a, e = transform.BackGrid(g, w, v)
		b, f = transform.BackGrid(h, x, y)
		for i, row := range cells(a) {
			boxes, _ := b.Row(i)
			encloses(t, "BackGrid", row, e, boxes, f)
		}
	}
}

// bits is the precision of the factors that the tests compute by themselves.
const bits = 200

// root returns the square root of a real number from 0 to 1, to about as many bits.
func root(a num.Num) num.Num {
	if !a.Clear() {
		return a
	}
	r := num.Int(1)
	for range 20 {
		q, _ := a.Div(r)
		r = r.Add(q).Mul(fraction(1, 2)).Floor(bits)
	}
	return r
}

// nearFactors returns numbers near the factors of a length: half of an angle has the cosine and the sine whose squares are (1 + c)/2 and (1 - c)/2.
func nearFactors(n int) []num.Num {
	first := num.Int(1)
	if n > 1 {
		first = num.Int(-1)
	}
	i, _ := num.New(0, 1, 1)
	for k := 2; k < n; k *= 2 {
		c, half := first.Re(), fraction(1, 2)
		cos, sin := root(num.Int(1).Add(c).Mul(half)), root(num.Int(1).Sub(c).Mul(half))
		first = cos.Sub(sin.Mul(i))
	}
	w := make([]num.Num, n)
	w[0] = num.Int(1)
	for k := 1; k < n; k++ {
		w[k] = w[k-1].Mul(first).Floor(bits)
	}
	return w
}

// isNear reports whether a box has a number that differs from x by at most 1e-45 in each part.
func isNear(t testing.TB, b box.Box, x num.Num) bool {
	t.Helper()
	re, im := b.Parts()
	tolerance := parse(t, "1e-45")
	near := func(s box.Span, p num.Num) bool {
		lo, hi := s.Ends()
		// An end without bounds gives 0 and an error.
		low, e := num.Complex(complex(lo, 0))
		high, f := num.Complex(complex(hi, 0))
		return (e != api.OK || low.Cmp(p.Add(tolerance)) <= 0) && (f != api.OK || p.Sub(tolerance).Cmp(high) <= 0)
	}
	return near(re, x.Re()) && near(im, x.Im())
}

// TestNearFactors tests the factors that the tests compute, and compares those of Roots with them.
func TestNearFactors(t *testing.T) {
	for _, n := range lengths {
		w, near := roots(t, n), nearFactors(n)
		last := near[n-1].Mul(near[1%n])
		if !isNear(t, box.Box{}.Of(num.Int(1)), last) {
			t.Errorf("the factor %d of %d: %v", n, n, last.Near())
		}
		for k := range w {
			if !isNear(t, w[k], near[k]) {
				t.Errorf("Roots of %d, %d: %v, %v, not near %v", n, k, w[k].Lo(), w[k].Hi(), near[k].Near())
			}
		}
	}
}

// TestTransformsOfBoxes is P7.3.
func TestTransformsOfBoxes(t *testing.T) {
	d := dice(19)
	for _, n := range lengths {
		x, w, near := d.list(n), roots(t, n), nearFactors(n)
		conj := zip(near, near, func(a, _ num.Num) num.Num { return a.Conj() })
		for _, b := range [][]box.Box{narrow(x), d.boxes(x)} {
			forward, e1 := transform.Forward(b, w)
			fast, e2 := transform.Fast(b, w)
			back, e3 := transform.Back(b, w)
			fastBack, e4 := transform.FastBack(b, w)
			if e1 != api.OK || e2 != api.OK || e3 != api.OK || e4 != api.OK {
				t.Fatalf("%d boxes: %d, %d, %d, %d", n, e1, e2, e3, e4)
			}
			for k := range n {
				y := definition(x, near, k)
				z := definition(x, conj, k).Mul(fraction(1, n))
				if !isNear(t, forward[k], y) || !isNear(t, fast[k], y) || !isNear(t, back[k], z) || !isNear(t, fastBack[k], z) {
					t.Errorf("element %d of %d: a transform is %v, the inverse one %v", k, n, y.Near(), z.Near())
				}
				if _, ok := forward[k].Meet(fast[k]); !ok {
					t.Errorf("element %d of %d: Forward and Fast do not meet", k, n)
				}
			}
			back, e1 = transform.Back(forward, w)
			fastBack, e2 = transform.FastBack(fast, w)
			for k := range n {
				if !b[k].In(back[k]) || !b[k].In(fastBack[k]) || e1 != api.OK || e2 != api.OK {
					t.Errorf("element %d of %d does not come back: %d, %d", k, n, e1, e2)
				}
			}
		}
	}
}

// TestNarrowTransforms tests that boxes stay narrow: a result that is far too wide would have the promises, too.
func TestNarrowTransforms(t *testing.T) {
	d := dice(20)
	for _, n := range lengths {
		x := narrow(d.list(n))
		for _, f := range functions[box.Box]() {
			l, e := f.f(x, roots(t, n))
			for k, b := range l {
				if wide := b.Hi() - b.Lo(); real(wide) > 0x1p-40 || imag(wide) > 0x1p-40 || e != api.OK {
					t.Errorf("%s of %d, %d: %v, %v, %d", f.name, n, k, b.Lo(), b.Hi(), e)
				}
			}
		}
	}
}

// TestResponsesOfBoxes is P7.6 over boxes.
func TestResponsesOfBoxes(t *testing.T) {
	d := dice(21)
	for _, n := range []int{2, 4, 8, 16, 32, 64} {
		for range 5 {
			b := d.boxes(d.list(n/2 - 1))
			y, e := transform.Extend(b, d.box(d.small().Re()))
			if e != api.OK {
				t.Fatalf("Extend: %d", e)
			}
			for i, f := range functions[box.Box]()[2:] {
				response, e := f.f(y, roots(t, n))
				for k, r := range response {
					if lo, hi := imag(r.Lo()), imag(r.Hi()); lo > 0 || hi < 0 || e != api.OK {
						t.Errorf("response %d of %d, %d: %v, %v, %d", i, n, k, r.Lo(), r.Hi(), e)
					}
				}
			}
		}
	}
}

// TestBoxes has results with known corners.
func TestBoxes(t *testing.T) {
	x := []box.Box{between(t, 1, 2), between(t, 0, 1)}
	for i, f := range functions[box.Box]() {
		l, e := f.f(x, roots(t, 2))
		want := []box.Box{between(t, 1, 3), between(t, 0, 2)}
		if i > 1 {
			want = []box.Box{between(t, 0.5, 1.5), between(t, 0, 1)}
		}
		like(t, f.name, l, e, want)
	}
	s, e := transform.Energy([]box.Box{between(t, -1, 2)})
	like(t, "Energy", []box.Box{s}, e, []box.Box{between(t, -2, 4)})
	z, e := transform.Zero(x)
	like(t, "Zero", []box.Box{z}, e, []box.Box{between(t, 1, 4)})
	y, e := transform.Steps(x)
	like(t, "Steps", y, e, []box.Box{between(t, 1, 2), between(t, 1, 3)})
	y, e = transform.Cut(x, api.Gate{From: 1, Count: 1})
	like(t, "Cut", y, e, []box.Box{between(t, 0, 0), between(t, 0, 1)})
}
