package scan_test

import (
	"strconv"
	"testing"

	"waveport/api"
	"waveport/num"
	"waveport/scan"
	"waveport/transform"
)

func TestCarry(t *testing.T) {
	g := numbers(t, "1 -1i -1 1i")
	w, v := factors(t, 4), factors(t, 1)
	weights := numbers(t, "0 0 0 2i")
	h, e := scan.Recover(g, w, v, weights, marked(t, "...x"))
	isGrid(t, "Recover of the fourth example", h, e, "-1/2i -1/2 1/2i 1/2")
	h, e = scan.Carry(h, w, v, weights, marked(t, "xxxx"))
	isGrid(t, "Carry", h, e, "1 -1i -1 1i")
	h, e = scan.Carry(g, w, v, weights, marked(t, "xxx."))
	isGrid(t, "Carry without the mode", h, e, "0 0 0 0")
	h, e = scan.Carry(numbers(t, "3 5"), factors(t, 2), v, numbers(t, "1 1"), marked(t, "x."))
	isGrid(t, "Carry of the fifth example", h, e, "4 4")
	h, e = scan.Carry(numbers(t, "3;5"), v, factors(t, 2), numbers(t, "1;1i"), marked(t, ".;x"))
	isGrid(t, "Carry of a column", h, e, "-1i;1i")
	h, e = scan.Recover(numbers(t, "3;5"), v, factors(t, 2), numbers(t, "0;1i"), marked(t, ".;x"))
	isGrid(t, "Recover of a column", h, e, "1i;-1i")
	h, e = scan.Recover(numbers(t, "3 5"), factors(t, 2), v, numbers(t, "0 0"), marked(t, ".."))
	isGrid(t, "Recover of nothing", h, e, "0 0")
}

// TestOtherFactors takes factors that do not belong to a transform: a field of one cell has all its products as modes.
func TestOtherFactors(t *testing.T) {
	w, v := list(t, "2i"), list(t, "0")
	h, e := scan.Carry(numbers(t, "3"), w, v, numbers(t, "1/2"), marked(t, "x"))
	isGrid(t, "Carry of one cell", h, e, "3/2")
	// The modes 1 + 2 and 1 - 2 become 3 and -2, and these (3 - 2 2)/2 and (3 + 2 2)/2.
	h, e = scan.Carry(numbers(t, "1 1"), list(t, "2 7"), v, numbers(t, "1 2"), marked(t, "xx"))
	isGrid(t, "Carry with the factor 2", h, e, "-1/2 7/2")
	x, e := scan.LeftOut(numbers(t, "1 1"), list(t, "2 7"), v, marked(t, ".x"))
	is(t, "LeftOut with the factor 2", x, e, "9/2")
}

func TestRecoverErrors(t *testing.T) {
	g := numbers(t, "1 2;3 4")
	w := factors(t, 2)
	weights := numbers(t, "1 0;1i 0")
	for _, c := range []struct {
		keep string
		e    api.Errno
	}{
		{"x.;x.", api.OK}, {"..;..", api.OK}, {"xx;x.", api.ErrZero}, {"..;.x", api.ErrZero}, {"xx;xx", api.ErrZero},
	} {
		h, e := scan.Recover(g, w, w, weights, marked(t, c.keep))
		if c.e != api.OK {
			noGrid(t, "Recover of "+c.keep, h, e, c.e)
		} else if e != c.e {
			t.Errorf("Recover of %s: %d", c.keep, e)
		}
		if _, e := scan.Carry(g, w, w, weights, marked(t, c.keep)); e != api.OK {
			t.Errorf("Carry of %s: %d", c.keep, e)
		}
	}
}

// TestFieldSizes has sizes that do not fit.
func TestFieldSizes(t *testing.T) {
	one := func(rows, cols int) grid {
		if rows*cols == 0 {
			return grid{}
		}
		return constant(t, rows, cols, num.Int(0))
	}
	all := func(rows, cols int) flags {
		if rows*cols == 0 {
			return flags{}
		}
		return filled(t, rows, cols, func(i, j int) bool { return true })
	}
	long := func(n int) []num.Num { return make([]num.Num, n) }
	for _, c := range []struct {
		g, weights, keep [2]int
		w, v             int
		e, left          api.Errno
	}{
		{[2]int{2, 4}, [2]int{2, 4}, [2]int{2, 4}, 4, 2, api.ErrZero, api.OK},
		{[2]int{2, 4}, [2]int{2, 4}, [2]int{2, 4}, 2, 4, api.ErrSize, api.ErrSize},
		{[2]int{2, 4}, [2]int{2, 4}, [2]int{2, 4}, 4, 4, api.ErrSize, api.ErrSize},
		{[2]int{2, 4}, [2]int{2, 4}, [2]int{2, 4}, 0, 2, api.ErrSize, api.ErrSize},
		{[2]int{2, 4}, [2]int{2, 4}, [2]int{2, 4}, 4, 0, api.ErrSize, api.ErrSize},
		{[2]int{2, 3}, [2]int{2, 3}, [2]int{2, 3}, 3, 2, api.ErrSize, api.ErrSize},
		{[2]int{3, 2}, [2]int{3, 2}, [2]int{3, 2}, 2, 3, api.ErrSize, api.ErrSize},
		{[2]int{2, 4}, [2]int{4, 2}, [2]int{2, 4}, 4, 2, api.ErrSize, api.OK},
		{[2]int{2, 4}, [2]int{2, 2}, [2]int{2, 4}, 4, 2, api.ErrSize, api.OK},
		{[2]int{2, 4}, [2]int{4, 4}, [2]int{2, 4}, 4, 2, api.ErrSize, api.OK},
		{[2]int{2, 4}, [2]int{0, 0}, [2]int{2, 4}, 4, 2, api.ErrSize, api.OK},
		{[2]int{2, 4}, [2]int{2, 4}, [2]int{4, 2}, 4, 2, api.ErrSize, api.ErrSize},
		{[2]int{2, 4}, [2]int{2, 4}, [2]int{2, 8}, 4, 2, api.ErrSize, api.ErrSize},
		{[2]int{2, 4}, [2]int{2, 4}, [2]int{1, 4}, 4, 2, api.ErrSize, api.ErrSize},
		{[2]int{2, 4}, [2]int{2, 4}, [2]int{0, 0}, 4, 2, api.ErrSize, api.ErrSize},
		{[2]int{0, 0}, [2]int{0, 0}, [2]int{0, 0}, 0, 0, api.ErrSize, api.ErrSize},
		{[2]int{0, 0}, [2]int{2, 4}, [2]int{2, 4}, 4, 2, api.ErrSize, api.ErrSize},
		{[2]int{64, 1}, [2]int{64, 1}, [2]int{64, 1}, 1, 64, api.ErrZero, api.OK},
	} {
		g, weights, keep := one(c.g[0], c.g[1]), one(c.weights[0], c.weights[1]), all(c.keep[0], c.keep[1])
		h, e := scan.Recover(g, long(c.w), long(c.v), weights, keep)
		noGrid(t, "Recover", h, e, c.e)
		h, e = scan.Carry(g, long(c.w), long(c.v), weights, keep)
		if c.e == api.ErrSize {
			noGrid(t, "Carry", h, e, c.e)
		} else if e != api.OK {
			t.Errorf("Carry: %d", e)
		}
		x, e := scan.LeftOut(g, long(c.w), long(c.v), keep)
		fails(t, "LeftOut", x, e, c.left)
	}
}

// TestFields is P8.4, and what else follows from the descriptions.
func TestFields(t *testing.T) {
	d := dice(9)
	for range 60 {
		rows, cols := d.length(), d.length()
		w, v := factors(t, cols), factors(t, rows)
		g, other, keep := d.grid(t, rows, cols), d.grid(t, rows, cols), d.flags(t, rows, cols)
		weights, more := d.weights(t, rows, cols), d.weights(t, rows, cols)
		carry := func(g, weights grid) grid {
			h, e := scan.Carry(g, w, v, weights, keep)
			if e != api.OK {
				t.Fatalf("Carry: %d", e)
			}
			return h
		}
		part := field(t, kept(t, spectrum(t, g), keep))
		h, e := scan.Recover(carry(part, weights), w, v, weights, keep)
		sameGrid(t, "Recover of Carry", h, e, part)
		recovered, e := scan.Recover(g, w, v, weights, keep)
		sameGrid(t, "Carry of Recover", carry(recovered, weights), e, part)
		products := joined(t, weights, more, num.Num.Mul)
		sameGrid(t, "Carry twice", carry(carry(g, weights), more), api.OK, carry(g, products))
		sameGrid(t, "Carry twice", carry(carry(g, more), weights), api.OK, carry(g, products))
		ones := constant(t, rows, cols, num.Int(1))
		sameGrid(t, "Carry with the weights 1", carry(g, ones), api.OK, part)
		h, e = scan.Carry(g, w, v, ones, filled(t, rows, cols, func(i, j int) bool { return true }))
		sameGrid(t, "Carry of all modes with the weights 1", h, e, g)
		// Linear: a g + other.
		a := d.small()
		add := func(x, y num.Num) num.Num { return a.Mul(x).Add(y) }
		both := joined(t, g, other, add)
		sameGrid(t, "Carry of a sum", carry(both, weights), api.OK, joined(t, carry(g, weights), carry(other, weights), add))
		h, e = scan.Recover(both, w, v, weights, keep)
		second, _ := scan.Recover(other, w, v, weights, keep)
		sameGrid(t, "Recover of a sum", h, e, joined(t, recovered, second, add))
	}
}

// wave returns the field of a single mode, by its definition.
func wave(t testing.TB, rows, cols, i, j int, m num.Num) grid {
	t.Helper()
	w, v := factors(t, cols), factors(t, rows)
	share := fraction(1, rows*cols)
	return filled(t, rows, cols, func(r, c int) num.Num {
		return m.Mul(share).Mul(v[i*r%rows].Conj()).Mul(w[j*c%cols].Conj())
	})
}

// TestModes carries each mode alone: it appears with its weight in its own place only.
func TestModes(t *testing.T) {
	d := dice(10)
	for _, rows := range []int{1, 2, 4} {
		for _, cols := range []int{1, 2, 4} {
			weights, keep := d.weights(t, rows, cols), d.flags(t, rows, cols)
			w, v := factors(t, cols), factors(t, rows)
			for i := range rows {
				for j := range cols {
					m := d.clear()
					x, _ := weights.At(i, j)
					y := quotient(m, x)
					x = m.Mul(x)
					if k, _ := keep.At(i, j); !k {
						x, y = num.Num{}, num.Num{}
					}
					what := " of the mode " + strconv.Itoa(i) + ", " + strconv.Itoa(j)
					g := wave(t, rows, cols, i, j, m)
					h, e := scan.Carry(g, w, v, weights, keep)
					sameGrid(t, "Carry"+what, h, e, wave(t, rows, cols, i, j, x))
					h, e = scan.Recover(g, w, v, weights, keep)
					sameGrid(t, "Recover"+what, h, e, wave(t, rows, cols, i, j, y))
				}
			}
		}
	}
}

// energy returns the sum of the squares of the absolute values of a grid.
func energy(g grid) num.Num {
	var s num.Num
	for _, row := range cells(g) {
		for _, x := range row {
			s = s.Add(x.Mul(x.Conj()))
		}
	}
	return s
}

// TestLeftOut is P8.7.
func TestLeftOut(t *testing.T) {
	x, e := scan.LeftOut(numbers(t, "3 5"), factors(t, 2), factors(t, 1), marked(t, "x."))
	is(t, "LeftOut of the fifth example", x, e, "2")
	d := dice(11)
	for range 80 {
		rows, cols := d.length(), d.length()
		w, v := factors(t, cols), factors(t, rows)
		g, keep := d.grid(t, rows, cols), d.flags(t, rows, cols)
		if d.below(2) == 0 {
			g = field(t, kept(t, spectrum(t, g), keep))
		}
		h, _ := scan.Carry(g, w, v, constant(t, rows, cols, num.Int(1)), keep)
		x, e := scan.LeftOut(g, w, v, keep)
		is(t, "LeftOut", x, e, energy(joined(t, g, h, num.Num.Sub)).Text())
		modes := spectrum(t, g)
		fades := joined(t, modes, kept(t, modes, keep), num.Num.Sub)
		if x.Clear() != energy(fades).Clear() {
			t.Errorf("LeftOut of %s with %s: %s", gridText(g), flagText(keep), x.Text())
		}
	}
}

func TestCircular(t *testing.T) {
	r, l, e := scan.Circular(numbers(t, "2 0"), numbers(t, "-2i 1"))
	isGrid(t, "the first part", r, e, "2 1/2i")
	isGrid(t, "the second part", l, e, "0 -1/2i")
	for _, c := range []struct{ x, y grid }{
		{numbers(t, "2 0"), numbers(t, "2")},
		{numbers(t, "2 0"), numbers(t, "2;0")},
		{numbers(t, "2"), numbers(t, "2;0")},
		{numbers(t, "2"), grid{}},
		{grid{}, numbers(t, "2")},
		{grid{}, grid{}},
	} {
		r, l, e := scan.Circular(c.x, c.y)
		noGrid(t, "Circular", r, e, api.ErrSize)
		noGrid(t, "Circular", l, e, api.ErrSize)
	}
	// The first part of P8.9; the sizes need not be lengths.
	d := dice(12)
	i := parse(t, "1i")
	for _, size := range [][2]int{{1, 1}, {3, 5}, {64, 2}, {2, 64}, {7, 1}} {
		x, y := d.grid(t, size[0], size[1]), d.grid(t, size[0], size[1])
		r, l, e := scan.Circular(x, y)
		sameGrid(t, "the sum of the parts", joined(t, r, l, num.Num.Add), e, x)
		sameGrid(t, "the difference of the parts", joined(t, r, l, num.Num.Sub), e, joined(t, y, y, func(a, _ num.Num) num.Num { return i.Mul(a) }))
	}
}

// TestTransformErrors tests that an error of the transform is the one that is returned.
func TestTransformErrors(t *testing.T) {
	g := numbers(t, "1 2 3")
	_, want := transform.ForwardGrid(g, make([]num.Num, 3), make([]num.Num, 1))
	h, e := scan.Carry(g, make([]num.Num, 3), make([]num.Num, 1), numbers(t, "0 0 0"), marked(t, "xxx"))
	noGrid(t, "Carry", h, e, want)
}
