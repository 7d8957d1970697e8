package scan_test

import (
	"math"
	"testing"

	"waveport/api"
	"waveport/box"
	"waveport/num"
	"waveport/scan"
	"waveport/transform"
)

func TestPattern(t *testing.T) {
	g, e := scan.Pattern(numbers(t, "3 5"), factors(t, 2), factors(t, 1))
	a, _ := g.At(0, 0)
	b, _ := g.At(0, 1)
	if a != 64 || b != 4 || e != api.OK {
		t.Errorf("Pattern: %v, %v, %d", a, b, e)
	}
	// A field of one cell is its only mode.
	for _, c := range []struct {
		x    string
		want float32
	}{
		{"0", 0},
		{"3-4i", 25},
		{"1/10i", 0.01},
		{"1e-30", 0},
		{"1e-22", 1e-44},
		{"1e19", 1e38},
		{"1e20", float32(math.Inf(1))},
		{"1e200", float32(math.Inf(1))},
		// 2^24 + 1 lies in the middle of two float32s, and so does 2^24 + 3.
		{"4096+1i", 1 << 24},
		{"4096+1001/1000i", 1<<24 + 2},
		{"4096+2i", 1<<24 + 4},
		{"4096+3/2i", 1<<24 + 2},
		{"4097+4095i", 1 << 25},
		// 2^-24 is half of the last place, and the little above it is too small for a float64 in between.
		{"1+68719476737/281474976710656i", 1 + 0x1p-23},
	} {
		g, e := scan.Pattern(numbers(t, c.x), factors(t, 1), factors(t, 1))
		x, f := g.At(0, 0)
		if x != c.want || math.Signbit(float64(x)) || e != api.OK || f != api.OK {
			t.Errorf("Pattern of %s: %v, %d, want %v", c.x, x, e, c.want)
		}
	}
	for _, c := range []struct {
		g    grid
		w, v int
	}{{numbers(t, "1 2 3"), 3, 1}, {numbers(t, "1 2"), 1, 2}, {numbers(t, "1 2"), 2, 2}, {grid{}, 0, 0}, {grid{}, 1, 1}} {
		w, v := make([]num.Num, c.w), make([]num.Num, c.v)
		g, e := scan.Pattern(c.g, w, v)
		noGrid(t, "Pattern", g, e, api.ErrSize)
		i, j, gain, e := scan.Peak(c.g, w, v)
		code(t, "Peak", i == 0 && j == 0 && !gain.Clear(), e, api.ErrSize)
	}
}

// TestPowers compares patterns and peaks with the modes by definition.
func TestPowers(t *testing.T) {
	d := dice(14)
	for range 80 {
		rows, cols := d.length(), d.length()
		w, v := factors(t, cols), factors(t, rows)
		// Fields with few different values have several greatest modes.
		g := filled(t, rows, cols, func(i, j int) num.Num { return num.Int(int64(d.below(3) - 1)) })
		if d.below(2) == 0 {
			g = d.grid(t, rows, cols)
		}
		modes := spectrum(t, g)
		pattern, e := scan.Pattern(g, w, v)
		var at [2]int
		var most, all num.Num
		single := 0
		for i, row := range cells(modes) {
			for j, m := range row {
				norm := m.Mul(m.Conj())
				if x, f := pattern.At(i, j); x != real(norm.Near64()) || e != api.OK || f != api.OK {
					t.Errorf("Pattern at %d, %d: %v, %d, %d", i, j, x, e, f)
				}
				if less(most, norm) {
					at, most = [2]int{i, j}, norm
				}
				if norm.Clear() {
					single++
				}
				all = all.Add(norm)
			}
		}
		i, j, gain, e := scan.Peak(g, w, v)
		if single == 0 {
			code(t, "Peak", i == 0 && j == 0 && !gain.Clear(), e, api.ErrZero)
			continue
		}
		want := quotient(most, quotient(all, num.Int(int64(rows*cols))))
		if at != [2]int{i, j} || !gain.Same(want) || e != api.OK {
			t.Errorf("Peak: %d, %d, %s, %d, want %v, %s", i, j, gain.Text(), e, at, want.Text())
		}
		// The second part of P8.9.
		modesNumber := num.Int(int64(rows * cols))
		if less(gain, num.Int(1)) || less(modesNumber, gain) || gain.Same(modesNumber) != (single == 1) {
			t.Errorf("a gain of %s with %d modes", gain.Text(), single)
		}
	}
}

func TestPeak(t *testing.T) {
	for _, c := range []struct {
		g    string
		i, j int
		gain string
	}{
		{"3 5", 0, 0, "32/17"},
		{"1 0;0 0", 0, 0, "1"},
		{"1 -1", 0, 1, "2"},
		{"1;-1", 1, 0, "2"},
		{"1 -1i -1 1i", 0, 3, "4"},
		{"1i 0 -1i 0", 0, 1, "2"},
		{"-7i", 0, 0, "1"},
		{"1/1000 0", 0, 0, "1"},
	} {
		g := numbers(t, c.g)
		rows, cols := g.Size()
		i, j, gain, e := scan.Peak(g, factors(t, cols), factors(t, rows))
		if i != c.i || j != c.j || gain.Text() != c.gain || e != api.OK {
			t.Errorf("Peak of %s: %d, %d, %s, %d", c.g, i, j, gain.Text(), e)
		}
	}
	i, j, gain, e := scan.Peak(numbers(t, "0 0;0 0"), factors(t, 2), factors(t, 2))
	code(t, "Peak of nothing", i == 0 && j == 0 && !gain.Clear(), e, api.ErrZero)
	// The factors need not be those of a transform.
	i, j, gain, e = scan.Peak(numbers(t, "1 1"), list(t, "-2 7"), list(t, "0"))
	if i != 0 || j != 1 || gain.Text() != "9/5" || e != api.OK {
		t.Errorf("Peak with the factor -2: %d, %d, %s, %d", i, j, gain.Text(), e)
	}
}

// array returns boxes around the numbers of a text that reach so far in each direction.
func array(t testing.TB, s string, reach float64) boxes {
	t.Helper()
	g := numbers(t, s)
	around := corners(t, complex(-reach, -reach), complex(reach, reach))
	return joined(t, g, g, func(x, _ num.Num) box.Box { return around.Of(x).Add(around) })
}

func TestDead(t *testing.T) {
	for k, c := range []struct {
		s       string
		reach   float64
		nominal string
		i, j    int
		e       api.Errno
	}{
		{"1 1 0 1", 0, "1", 0, 2, api.OK},
		{"1 1;1 1;0 1", 0, "1", 2, 0, api.OK},
		{"0 1;1 1;1 1", 0, "1", 0, 0, api.OK},
		{"1 1 1/2 1", 0, "1", 0, 0, api.ErrNone},
		{"1 1 1/2i 0", 0, "1", 0, 0, api.ErrNone},
		{"1 1 1/4+1/4i 1i", 0, "1", 0, 2, api.OK},
		{"1 0 0 1", 0, "1", 0, 0, api.ErrNone},
		{"0 0", 0, "1", 0, 0, api.ErrNone},
		{"1 1 1 1", 0, "1", 0, 0, api.ErrNone},
		{"1 1 1/4 1", 0.0625, "1", 0, 2, api.OK},
		{"1 1 1/4 1", 0.25, "1", 0, 0, api.ErrNone},
		{"5/8 1 0 1", 0.25, "1", 0, 0, api.ErrNone},
		{"0 1 5/8 1", 0.25, "1", 0, 0, api.ErrNone},
		{"1 0 5/8 1", 0.125, "1", 0, 0, api.ErrNone},
		{"1 0 11/16 1", 0.125, "1", 0, 1, api.OK},
		{"0", 0, "1", 0, 0, api.OK},
		{"1", 0, "1", 0, 0, api.ErrNone},
		{"1", 0, "5", 0, 0, api.OK},
		{"1 2", 0, "5", 0, 0, api.OK},
		{"2 1", 0, "5", 0, 1, api.OK},
		{"1 2", 0, "4", 0, 0, api.ErrNone},
		{"1 1/10", 0, "1/25", 0, 0, api.ErrNone},
		{"1 1/10", 0, "41/1000", 0, 1, api.OK},
		{"1 1/10", 0, "39/1000", 0, 0, api.ErrNone},
		{"1 0", 0, "0", 0, 0, api.ErrArg},
		{"1 0", 0, "-1", 0, 0, api.ErrArg},
		{"1 0", 0, "1i", 0, 0, api.ErrArg},
		{"1 0", 0, "1+1i", 0, 0, api.ErrArg},
		{"1 0", 0, "1e-400", 0, 0, api.ErrNone},
		{"1 0", 0, "1e400", 0, 0, api.ErrNone},
		{"0 1 2;3 4 5;6 7 8", 0, "1", 0, 0, api.OK},
	} {
		i, j, e := scan.Dead(array(t, c.s, c.reach), parse(t, c.nominal))
		if i != c.i || j != c.j || e != c.e {
			t.Errorf("case %d: %d, %d, %d, want %d, %d, %d", k, i, j, e, c.i, c.j, c.e)
		}
	}
	for _, s := range []string{"1", "0", "1i"} {
		i, j, e := scan.Dead(boxes{}, parse(t, s))
		code(t, "Dead of nothing", i == 0 && j == 0, e, api.ErrSize)
	}
}

// TestDeadElements is P8.10.
func TestDeadElements(t *testing.T) {
	d := dice(15)
	found := 0
	for range 600 {
		rows, cols := 1+d.below(3), 1+d.below(5)
		nominal := d.positive()
		quarter := nominal.Mul(fraction(1, 4))
		points := d.below(2) == 0
		at := [2]int{d.below(rows), d.below(cols)}
		var power [][]num.Num
		var dead, faint int
		g := filled(t, rows, cols, func(i, j int) box.Box {
			x, _ := num.New(int64(4+d.below(5)), int64(d.below(5)), 2)
			if at == [2]int{i, j} || d.below(8*rows*cols) == 0 {
				x, _ = num.New(int64(d.below(5)), int64(d.below(3)-1), 8)
			}
			if j == 0 {
				power = append(power, nil)
			}
			power[i] = append(power[i], x.Norm())
			if less(x.Norm(), quarter) {
				dead++
			} else if x.Norm().Same(quarter) {
				faint++
			}
			if points {
				return box.Box{}.Of(x)
			}
			return d.box(x)
		})
		i, j, e := scan.Dead(g, nominal)
		if e != api.OK {
			code(t, "Dead", i == 0 && j == 0, e, api.ErrNone)
			if points && dead == 1 && faint == 0 && exact(quarter) {
				t.Errorf("no element is dead, with the powers %v and the quarter %s", power, quarter.Text())
			}
			continue
		}
		found++
		// The numbers in the boxes have these powers.
		if dead != 1 || faint != 0 || !less(power[i][j], quarter) {
			t.Errorf("the dead element is %d, %d, with %d dead ones", i, j, dead)
		}
		for r, row := range cells(g) {
			for c, b := range row {
				lo, hi := b.Norm().Ends()
				isAt := r == i && c == j
				if isAt && !(hi < quarter.Above()) || !isAt && !(lo > quarter.Below()) {
					t.Errorf("element %d, %d: %v, %v, the quarter %s", r, c, lo, hi, quarter.Text())
				}
			}
		}
	}
	if found < 100 {
		t.Errorf("only %d dead elements", found)
	}
}

// exact reports whether a real number is a float64.
func exact(x num.Num) bool { return x.Below() == x.Above() }

// TestDeadSizes takes arrays whose sizes are not lengths of a transform.
func TestDeadSizes(t *testing.T) {
	for _, c := range [][2]int{{3, 5}, {64, 64}, {1, 63}} {
		last := [2]int{c[0] - 1, c[1] - 1}
		g := filled(t, c[0], c[1], func(i, j int) box.Box {
			if last == [2]int{i, j} {
				return box.Box{}
			}
			return corners(t, 1, 1)
		})
		i, j, e := scan.Dead(g, num.Int(1))
		if last != [2]int{i, j} || e != api.OK {
			t.Errorf("Dead: %d, %d, %d", i, j, e)
		}
	}
	var none transform.Grid[box.Box]
	i, j, e := scan.Dead(none, num.Num{})
	code(t, "Dead of nothing", i == 0 && j == 0, e, api.ErrSize)
}
