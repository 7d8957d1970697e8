package scan_test

import (
	"math"
	"slices"
	"testing"

	"waveport/api"
	"waveport/num"
	"waveport/scan"
)

func TestFill(t *testing.T) {
	for i, c := range []struct {
		g     string
		holes [][2]int
		keep  string
		want  string
		e     api.Errno
	}{
		{"3 5", [][2]int{{0, 1}}, "x.", "3 3", api.OK},
		{"3 5", [][2]int{{0, 0}}, "x.", "5 5", api.OK},
		{"3 5", [][2]int{{0, 0}}, ".x", "-5 5", api.OK},
		{"3 5", nil, "x.", "", api.ErrNone},
		{"3 3", nil, "x.", "3 3", api.OK},
		{"3 5", nil, "xx", "3 5", api.OK},
		{"3 5", [][2]int{}, "xx", "3 5", api.OK},
		{"3 5", [][2]int{{0, 1}}, "xx", "", api.ErrSingular},
		{"3 5", [][2]int{{0, 0}, {0, 1}}, "..", "0 0", api.OK},
		{"3 5", [][2]int{{0, 0}, {0, 1}}, "x.", "", api.ErrSingular},
		{"3 5", [][2]int{{0, 1}}, "..", "", api.ErrNone},
		{"0 5", [][2]int{{0, 1}}, "..", "0 0", api.OK},
		{"1 2;3 9", [][2]int{{1, 1}}, "xx;x.", "1 2;3 4", api.OK},
		{"1 2;3 9", [][2]int{{1, 1}}, "xx;..", "", api.ErrNone},
		{"1 2;1 9", [][2]int{{1, 1}}, "xx;..", "1 2;1 2", api.OK},
		// With every other mode, two samples with a distance of two say the same.
		{"1 2 1 9", [][2]int{{0, 3}}, "x.x.", "1 2 1 2", api.OK},
		{"1 2 1 9", [][2]int{{0, 1}, {0, 3}}, "x.x.", "", api.ErrSingular},
		{"1 2 3 9", [][2]int{{0, 1}, {0, 3}}, "x.x.", "", api.ErrNone},
		{"1 2 3 9", [][2]int{{0, 3}, {0, 0}}, "x.x.", "3 2 3 2", api.OK},
		{"7", [][2]int{{0, 0}}, "x", "", api.ErrSingular},
		{"7", [][2]int{{0, 0}}, ".", "0", api.OK},
		{"7", nil, ".", "", api.ErrNone},
		{"0", nil, ".", "0", api.OK},
		{"3 5", [][2]int{{0, 2}}, "x.", "", api.ErrArg},
		{"3 5", [][2]int{{1, 0}}, "x.", "", api.ErrArg},
		{"3 5", [][2]int{{0, -1}}, "x.", "", api.ErrArg},
		{"3 5", [][2]int{{-1, 0}}, "x.", "", api.ErrArg},
		{"3 5", [][2]int{{math.MaxInt, 0}}, "x.", "", api.ErrArg},
		{"3 5", [][2]int{{0, math.MinInt}}, "x.", "", api.ErrArg},
		{"3;5", [][2]int{{0, 1}}, "x;.", "", api.ErrArg},
		{"3;5", [][2]int{{1, 0}}, "x;.", "3;3", api.OK},
		{"3 5", [][2]int{{0, 1}, {0, 1}}, "x.", "", api.ErrTwice},
		{"3 5", [][2]int{{0, 1}, {0, 0}, {0, 1}}, "xx", "", api.ErrTwice},
		{"3 5", [][2]int{{0, 1}, {0, 1}, {0, 2}}, "x.", "", api.ErrTwice},
		{"3 5", [][2]int{{0, 1}, {0, 2}, {0, 1}}, "x.", "", api.ErrArg},
		{"3 5", [][2]int{{0, 2}, {0, 2}}, "x.", "", api.ErrArg},
		{"3 5 7", nil, "xxx", "", api.ErrSize},
		{"3;5;7", nil, "x;x;x", "", api.ErrSize},
		{"1 1 1 1 1 1 1 1", nil, "xxxxxxxx", "", api.ErrSize},
		{"1;1;1;1;1;1;1;1", nil, "x;x;x;x;x;x;x;x", "", api.ErrSize},
		{"3 5 7", [][2]int{{0, 5}}, "xxx", "", api.ErrSize},
		{"3 5", nil, "x", "", api.ErrSize},
		{"3 5", nil, "x;x", "", api.ErrSize},
		{"3 5", [][2]int{{0, 5}}, "xx;xx", "", api.ErrSize},
	} {
		h, e := scan.Fill(numbers(t, c.g), c.holes, marked(t, c.keep))
		if gridText(h) != c.want || e != c.e {
			t.Errorf("case %d: %s, %d, want %s, %d", i, gridText(h), e, c.want, c.e)
		}
	}
	h, e := scan.Fill(grid{}, nil, flags{})
	noGrid(t, "Fill of nothing", h, e, api.ErrSize)
	h, e = scan.Fill(numbers(t, "1"), nil, flags{})
	noGrid(t, "Fill without a choice of modes", h, e, api.ErrSize)
}

// holes returns n holes of a grid.
func (d *dice) holes(n, rows, cols int) [][2]int {
	var l [][2]int
	for len(l) < n {
		if h := [2]int{d.below(rows), d.below(cols)}; !slices.Contains(l, h) {
			l = append(l, h)
		}
	}
	return l
}

// byModes returns what Fill returns in another way: the unknown numbers are the kept modes, and each sample that is no hole is an equation.
func byModes(t testing.TB, g grid, holes [][2]int, keep flags) (grid, api.Errno) {
	t.Helper()
	rows, cols := g.Size()
	var waves []grid
	for i, row := range cells(keep) {
		for j, k := range row {
			if k {
				waves = append(waves, wave(t, rows, cols, i, j, num.Int(1)))
			}
		}
	}
	var m, with [][]num.Num
	var b []num.Num
	for i, row := range cells(g) {
		for j, x := range row {
			if slices.Contains(holes, [2]int{i, j}) {
				continue
			}
			var l []num.Num
			for _, h := range waves {
				y, _ := h.At(i, j)
				l = append(l, y)
			}
			m, b, with = append(m, l), append(b, x), append(with, append(slices.Clone(l), x))
		}
	}
	rank, _ := num.Rank(m)
	rankWith, _ := num.Rank(with)
	if rankWith > rank {
		return grid{}, api.ErrNone
	}
	if rank < len(waves) {
		return grid{}, api.ErrSingular
	}
	a, _ := num.Least(m, b)
	sum := constant(t, rows, cols, num.Num{})
	for k, h := range waves {
		sum = joined(t, sum, h, func(x, y num.Num) num.Num { return x.Add(a[k].Mul(y)) })
	}
	return sum, api.OK
}

// TestHoles is P8.8, and compares with the other way.
func TestHoles(t *testing.T) {
	d := dice(13)
	found := map[api.Errno]int{}
	for range 300 {
		rows, cols := d.length(), d.length()
		keep := d.flags(t, rows, cols)
		holes := d.holes(d.below(rows*cols+1), rows, cols)
		if d.below(2) == 0 {
			holes = holes[:len(holes)/3]
		}
		whole := field(t, kept(t, spectrum(t, d.grid(t, rows, cols)), keep))
		g := whole
		exactly := d.below(3) > 0
		g = filled(t, rows, cols, func(i, j int) num.Num {
			x, _ := whole.At(i, j)
			if slices.Contains(holes, [2]int{i, j}) || !exactly && d.below(4) == 0 {
				x = x.Add(d.small())
			}
			return x
		})
		h, e := scan.Fill(g, holes, keep)
		found[e]++
		want, e2 := byModes(t, g, holes, keep)
		if e2 != api.OK {
			noGrid(t, "Fill", h, e, e2)
		} else {
			sameGrid(t, "Fill", h, e, want)
		}
		if exactly && e == api.OK {
			sameGrid(t, "Fill of a sum of kept modes", h, e, whole)
		}
		if exactly && e == api.ErrNone {
			t.Errorf("Fill of %s with the holes %v: none", gridText(g), holes)
		}
		if len(holes) == 0 {
			modes := spectrum(t, g)
			fades := joined(t, modes, kept(t, modes, keep), num.Num.Sub)
			if (e == api.OK) == energy(fades).Clear() || e == api.ErrSingular {
				t.Errorf("Fill without holes: %d", e)
			}
		}
	}
	if found[api.OK] < 50 || found[api.ErrNone] < 20 || found[api.ErrSingular] < 50 {
		t.Errorf("the cases are too much alike: %v", found)
	}
}
