package scan_test

import (
	"testing"

	"waveport/api"
	"waveport/box"
	"waveport/num"
	"waveport/scan"
)

// encloses tests that a box contains a number.
func encloses(t testing.TB, what string, b box.Box, x num.Num) {
	t.Helper()
	if !b.Has(x) {
		t.Errorf("%s: %s is not within %v, %v", what, x.Text(), b.Lo(), b.Hi())
	}
}

// gridEncloses tests that the boxes of a grid contain numbers.
func gridEncloses(t testing.TB, what string, h boxes, f api.Errno, g grid, e api.Errno) {
	t.Helper()
	if e != api.OK || f != api.OK {
		t.Errorf("%s: %d, %d", what, e, f)
		return
	}
	for i, row := range cells(g) {
		for j, x := range row {
			b, e := h.At(i, j)
			encloses(t, what, b, x)
			if e != api.OK {
				t.Errorf("%s: no cell %d, %d", what, i, j)
			}
		}
	}
}

// isClear reports whether all kept weights are Clear.
func isClear(t testing.TB, weights boxes, keep flags) bool {
	t.Helper()
	clear := true
	joined(t, weights, keep, func(b box.Box, k bool) bool {
		clear = clear && (!k || b.Clear())
		return k
	})
	return clear
}

// TestEnclosure is P3 for all generic functions, with factors that are boxes around any numbers.
func TestEnclosure(t *testing.T) {
	d := dice(16)
	recovered := 0
	for range 60 {
		rows, cols := d.length(), d.length()
		w, v := d.list(cols), d.list(rows)
		wBox, vBox := d.boxes(w), d.boxes(v)
		g, weights, keep := d.grid(t, rows, cols), d.weights(t, rows, cols), d.flags(t, rows, cols)
		gBox, weightBox := d.boxGrid(t, g), d.boxGrid(t, weights)
		h, e := scan.Carry(g, w, v, weights, keep)
		b, f := scan.Carry(gBox, wBox, vBox, weightBox, keep)
		gridEncloses(t, "Carry", b, f, h, e)
		h, e = scan.Recover(g, w, v, weights, keep)
		b, f = scan.Recover(gBox, wBox, vBox, weightBox, keep)
		if isClear(t, weightBox, keep) {
			recovered++
			gridEncloses(t, "Recover", b, f, h, e)
		} else {
			noGrid(t, "Recover with a weight around 0", b, f, api.ErrZero)
		}
		x, e := scan.LeftOut(g, w, v, keep)
		y, f := scan.LeftOut(gBox, wBox, vBox, keep)
		code(t, "LeftOut", e == api.OK, f, api.OK)
		encloses(t, "LeftOut", y, x)
		r, l, e := scan.Circular(g, weights)
		rBox, lBox, f := scan.Circular(gBox, weightBox)
		gridEncloses(t, "the first circular part", rBox, f, r, e)
		gridEncloses(t, "the second circular part", lBox, f, l, e)
	}
	if recovered < 20 {
		t.Errorf("only %d fields recovered", recovered)
	}
}

// TestLineEnclosure is P3 for samples on the fly.
func TestLineEnclosure(t *testing.T) {
	d := dice(17)
	for range 100 {
		ticks := d.track(1 + d.below(6))
		var l []sample
		var b []scan.Sample[box.Box]
		for _, x := range d.track(1 + d.below(6)) {
			value := d.small()
			l = append(l, sample{Time: x.Time, Value: value})
			b = append(b, scan.Sample[box.Box]{Time: x.Time, Value: d.box(value)})
		}
		start, step := d.real(), d.positive()
		v, missing, e := scan.Line(ticks, l, start, step, 9)
		in, gone, f := scan.Line(ticks, b, start, step, 9)
		if len(v) != 9 || len(in) != 9 || len(missing) != len(gone) || e != api.OK || f != api.OK {
			t.Fatalf("Line: %d, %v, %d and %d, %v, %d", len(v), missing, e, len(in), gone, f)
		}
		for k, x := range v {
			encloses(t, "Line", in[k], x)
		}
	}
}

// repeated returns the grid in which another one is repeated: so many times below and beside itself.
func repeated[T any](t testing.TB, g [][]T, down, across int) [][]T {
	t.Helper()
	var out [][]T
	for range down {
		for _, row := range g {
			var l []T
			for range across {
				l = append(l, row...)
			}
			out = append(out, l)
		}
	}
	return out
}

// spread returns the grid in which the cells of another one stand so far apart, with cells that f returns between them.
func spread[T any](t testing.TB, g [][]T, down, across int, f func() T) [][]T {
	t.Helper()
	var out [][]T
	for i := range len(g) * down {
		var l []T
		for j := range len(g[0]) * across {
			if i%down == 0 && j%across == 0 {
				l = append(l, g[i/down][j/across])
			} else {
				l = append(l, f())
			}
		}
		out = append(out, l)
	}
	return out
}

// TestFieldsOfBoxes is P8.5 for all lengths. A field that is repeated has the modes of the part that is repeated, with all others between them 0: so the exact results are those of the part.
func TestFieldsOfBoxes(t *testing.T) {
	d := dice(18)
	for _, size := range [][2]int{{1, 1}, {1, 2}, {2, 1}, {4, 4}, {4, 8}, {8, 4}, {8, 16}, {16, 1}, {32, 2}, {2, 32}, {64, 4}, {1, 64}, {16, 64}} {
		for range 2 {
			rows, cols := min(size[0], 4), min(size[1], 4)
			down, across := size[0]/rows, size[1]/cols
			part, keep := d.grid(t, rows, cols), d.flags(t, rows, cols)
			// The boxes around these weights do not reach to 0.
			far := func() num.Num { return num.Int(12).Add(d.small()) }
			weights := filled(t, rows, cols, func(i, j int) num.Num { return far() })
			all := func(g grid) grid { return made(t, repeated(t, cells(g), down, across)) }
			boxG := d.boxGrid(t, all(part))
			weightBox := made(t, spread(t, cells(d.boxGrid(t, weights)), down, across, func() box.Box { return d.box(far()) }))
			keepAll := made(t, spread(t, cells(keep), down, across, func() bool { return d.below(2) == 0 }))
			w, v := factors(t, cols), factors(t, rows)
			wBox, vBox := roots(t, size[1]), roots(t, size[0])
			h, e := scan.Carry(part, w, v, weights, keep)
			b, f := scan.Carry(boxG, wBox, vBox, weightBox, keepAll)
			gridEncloses(t, "Carry", b, f, all(h), e)
			h, e = scan.Recover(part, w, v, weights, keep)
			b, f = scan.Recover(boxG, wBox, vBox, weightBox, keepAll)
			gridEncloses(t, "Recover", b, f, all(h), e)
			x, e := scan.LeftOut(part, w, v, keep)
			y, f := scan.LeftOut(boxG, wBox, vBox, keepAll)
			code(t, "LeftOut", e == api.OK, f, api.OK)
			encloses(t, "LeftOut", y, x.Mul(num.Int(int64(down*across))))
		}
	}
}

// TestThereAndBack carries a field of travelling modes with the weights of Travel, and leads it back: the boxes contain the field, and are narrow.
func TestThereAndBack(t *testing.T) {
	d := dice(19)
	dx, dy, lambda, distance := fraction(51, 100), fraction(53, 100), num.Int(1), fraction(37, 3)
	for _, c := range [][2]int{{1, 1}, {2, 4}, {1, 16}, {16, 1}} {
		rows, cols := 4*c[0], 4*c[1]
		few, e := scan.Keep(4, 4, dx, dy, lambda)
		keep, e1 := scan.Keep(rows, cols, dx, dy, lambda)
		weights, e2 := scan.Travel(rows, cols, dx, dy, lambda, distance)
		back, e3 := scan.Travel(rows, cols, dx, dy, lambda, distance.Neg())
		if e != api.OK || e1 != api.OK || e2 != api.OK || e3 != api.OK {
			t.Fatalf("Keep: %d, %d, Travel: %d, %d", e, e1, e2, e3)
		}
		w, v := roots(t, cols), roots(t, rows)
		part := field(t, kept(t, d.grid(t, 4, 4), few))
		g := made(t, repeated(t, cells(part), c[0], c[1]))
		there, e := scan.Carry(joined(t, g, g, func(x, _ num.Num) box.Box { return box.Box{}.Of(x) }), w, v, weights, keep)
		recovered, e1 := scan.Recover(there, w, v, weights, keep)
		again, e2 := scan.Carry(there, w, v, back, keep)
		gridEncloses(t, "Recover of Carry", recovered, e1, g, e)
		gridEncloses(t, "Carry back", again, e2, g, e)
		for _, row := range append(append(cells(there), cells(recovered)...), cells(again)...) {
			for _, b := range row {
				if wide := b.Hi() - b.Lo(); real(wide) > 0x1p-20 || imag(wide) > 0x1p-20 {
					t.Errorf("a wide box: %v, %v", b.Lo(), b.Hi())
				}
			}
		}
	}
}

// TestBoxes has results with known corners.
func TestBoxes(t *testing.T) {
	g := made(t, [][]box.Box{{corners(t, 1, 2), corners(t, 0, 1)}})
	weights := made(t, [][]box.Box{{corners(t, 2, 2), corners(t, 0, 0)}})
	w, v := roots(t, 2), roots(t, 1)
	h, e := scan.Carry(g, w, v, weights, marked(t, "x."))
	sameGrid(t, "Carry", h, e, made(t, [][]box.Box{{corners(t, 1, 3), corners(t, 1, 3)}}))
	h, e = scan.Recover(g, w, v, weights, marked(t, "x."))
	sameGrid(t, "Recover", h, e, made(t, [][]box.Box{{corners(t, 0.25, 0.75), corners(t, 0.25, 0.75)}}))
	h, e = scan.Recover(g, w, v, weights, marked(t, "xx"))
	noGrid(t, "Recover with the weight 0", h, e, api.ErrZero)
	h, e = scan.Recover(g, w, v, made(t, [][]box.Box{{corners(t, 2, 2), corners(t, -1-1i, 1)}}), marked(t, "xx"))
	noGrid(t, "Recover with a weight around 0", h, e, api.ErrZero)
	// The modes are 1 to 3 and 0 to 2; the sum of squares starts at 0.
	x, e := scan.LeftOut(g, w, v, marked(t, ".."))
	if x.Lo() != 0.5 || x.Hi() != 6.5 || e != api.OK {
		t.Errorf("LeftOut: %v, %v, %d", x.Lo(), x.Hi(), e)
	}
	x, e = scan.LeftOut(g, w, v, marked(t, "xx"))
	if x.Lo() != 0 || x.Hi() != 0 || e != api.OK {
		t.Errorf("LeftOut of nothing: %v, %v, %d", x.Lo(), x.Hi(), e)
	}
	l := []scan.Sample[box.Box]{{Time: num.Int(0), Value: corners(t, 1, 2)}, {Time: num.Int(2), Value: corners(t, 3, 4)}}
	in, missing, e := scan.Line(track(t, "0 0,2 2"), l, num.Int(0), num.Int(1), 3)
	// a + (b - a)/2 of the boxes from 1 to 2 and from 3 to 4, where b - a is from 1 to 3.
	want := made(t, [][]box.Box{{corners(t, 1, 2), corners(t, 1.5, 3.5), corners(t, 3, 4)}})
	if len(missing) != 0 {
		t.Errorf("missing: %v", missing)
	}
	sameGrid(t, "Line", made(t, [][]box.Box{in}), e, want)
}
