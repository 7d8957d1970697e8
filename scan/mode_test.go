package scan_test

import (
	"math"
	"strconv"
	"testing"

	"waveport/api"
	"waveport/box"
	"waveport/num"
	"waveport/scan"
)

func TestOrder(t *testing.T) {
	for i, want := range []int{0, 1, -2, -1} {
		k, e := scan.Order(4, i)
		if k != want || e != api.OK {
			t.Errorf("Order(4, %d): %d, %d", i, k, e)
		}
	}
	for _, n := range lengths {
		for i := range n {
			k, e := scan.Order(n, i)
			if (k-i)%n != 0 || 2*k < -n || 2*k >= n || e != api.OK {
				t.Errorf("Order(%d, %d): %d, %d", n, i, k, e)
			}
		}
		for _, i := range []int{-1, n, n + 1, -n, math.MaxInt, math.MinInt} {
			k, e := scan.Order(n, i)
			code(t, "Order", k == 0, e, api.ErrArg)
		}
	}
	for _, n := range noLengths {
		for _, i := range []int{-1, 0, 1, n} {
			k, e := scan.Order(n, i)
			code(t, "Order", k == 0, e, api.ErrSize)
		}
	}
}

// plane is the arguments that Direction, Keep and Travel have in common.
type plane struct {
	rows, cols     int
	dx, dy, lambda num.Num
}

// rate returns how often the mode with an index turns per length.
func rate(n, k int, d num.Num) num.Num {
	if 2*k >= n {
		k -= n
	}
	return quotient(num.Int(int64(k)), num.Int(int64(n)).Mul(d))
}

// rest returns 1/lambda^2 - p^2 - q^2 for the mode in row i and column j.
func (p plane) rest(i, j int) num.Num {
	a, b, c := rate(p.cols, j, p.dx), rate(p.rows, i, p.dy), quotient(num.Int(1), p.lambda)
	return c.Mul(c).Sub(a.Mul(a)).Sub(b.Mul(b))
}

func (d *dice) plane() plane {
	return plane{1 << d.below(5), 1 << d.below(5), d.positive(), d.positive(), d.positive()}
}

func (p plane) keep() (flags, api.Errno) { return scan.Keep(p.rows, p.cols, p.dx, p.dy, p.lambda) }

func (p plane) travel(distance num.Num) (boxes, api.Errno) {
	return scan.Travel(p.rows, p.cols, p.dx, p.dy, p.lambda, distance)
}

func TestDirection(t *testing.T) {
	half, one := fraction(1, 2), num.Int(1)
	for _, c := range []struct {
		rows, cols, i, j int
		dx, dy, lambda   num.Num
		want             string
	}{
		{4, 4, 0, 1, half, half, one, "1/2 0 3/4"},
		{4, 4, 2, 0, half, half, one, "0 -1 0"},
		{4, 2, 3, 1, half, half, one, "-1 -1/2 -1/4"},
		{1, 1, 0, 0, half, half, one, "0 0 1"},
		{8, 2, 3, 1, num.Int(2), num.Int(3), num.Int(4), "-1 1/2 -1/4"},
		{2, 8, 1, 5, num.Int(2), num.Int(3), num.Int(4), "-3/4 -2/3 -1/144"},
		{64, 64, 63, 31, one, one, one, "31/64 -1/64 1567/2048"},
	} {
		u, v, w2, e := scan.Direction(c.rows, c.cols, c.i, c.j, c.dx, c.dy, c.lambda)
		if got := listText([]num.Num{u, v, w2}); got != c.want || e != api.OK {
			t.Errorf("mode %d, %d of %d by %d: %s, %d, want %s", c.i, c.j, c.rows, c.cols, got, e, c.want)
		}
	}
}

// TestDirections is the last part of P8.6.
func TestDirections(t *testing.T) {
	d := dice(6)
	for range 30 {
		p := d.plane()
		keep, e := p.keep()
		if rows, cols := keep.Size(); rows != p.rows || cols != p.cols || e != api.OK {
			t.Fatalf("Keep: %d rows of %d, %d", rows, cols, e)
		}
		for i := range p.rows {
			for j := range p.cols {
				u, v, w2, e := scan.Direction(p.rows, p.cols, i, j, p.dx, p.dy, p.lambda)
				a, b := rate(p.cols, j, p.dx), rate(p.rows, i, p.dy)
				c := p.rest(i, j).Mul(p.lambda).Mul(p.lambda)
				if !u.Same(a.Mul(p.lambda)) || !v.Same(b.Mul(p.lambda)) || !w2.Same(c) || e != api.OK {
					t.Errorf("Direction: %s, %s, %s, %d", u.Text(), v.Text(), w2.Text(), e)
				}
				if kept, _ := keep.At(i, j); kept != less(num.Int(0), w2) {
					t.Errorf("mode %d, %d: %v, with %s", i, j, kept, w2.Text())
				}
			}
		}
	}
}

func TestKeep(t *testing.T) {
	half, one := fraction(1, 2), num.Int(1)
	for _, c := range []struct {
		p    plane
		want string
	}{
		{plane{4, 4, half, half, one}, "xx.x;xx.x;....;xx.x"},
		{plane{1, 1, one, one, one}, "x"},
		{plane{1, 2, half, one, one}, "x."},
		{plane{2, 1, half, one, one}, "x;x"},
		{plane{2, 1, one, half, one}, "x;."},
		{plane{1, 2, half, one, fraction(99, 100)}, "xx"},
		// 3/5 and 4/5 turns per length are as many as the wave itself has.
		{plane{4, 4, fraction(5, 12), fraction(5, 16), one}, "xx.x;x..." + ";....;x..."},
		{plane{4, 4, fraction(5, 12), fraction(5, 16), fraction(99, 100)}, "xx.x;xx.x;....;xx.x"},
	} {
		g, e := c.p.keep()
		if flagText(g) != c.want || e != api.OK {
			t.Errorf("Keep: %s, %d, want %s", flagText(g), e, c.want)
		}
	}
}

// allFail tests that Direction, Keep and Travel return an error.
func (p plane) allFail(t testing.TB, i, j int, distance num.Num, want api.Errno) {
	t.Helper()
	u, v, w2, e := scan.Direction(p.rows, p.cols, i, j, p.dx, p.dy, p.lambda)
	code(t, "Direction", listText([]num.Num{u, v, w2}) == "0 0 0", e, want)
	keep, e := p.keep()
	noGrid(t, "Keep", keep, e, want)
	weights, e := p.travel(distance)
	noGrid(t, "Travel", weights, e, want)
}

func TestWrongPlanes(t *testing.T) {
	one, i := num.Int(1), parse(t, "1i")
	wrong := list(t, "0 -1 -1/1000 1i 1+1i -1i")
	for _, n := range noLengths {
		plane{n, 4, one, one, one}.allFail(t, 0, 0, one, api.ErrSize)
		plane{4, n, one, one, one}.allFail(t, 0, 0, one, api.ErrSize)
		plane{n, n, i, i, i}.allFail(t, -1, -1, i, api.ErrSize)
	}
	for _, x := range wrong {
		plane{4, 4, x, one, one}.allFail(t, 0, 0, one, api.ErrArg)
		plane{4, 4, one, x, one}.allFail(t, 0, 0, one, api.ErrArg)
		plane{4, 4, one, one, x}.allFail(t, 0, 0, one, api.ErrArg)
		plane{1, 1, one, one, x}.allFail(t, 0, 0, i, api.ErrArg)
	}
	for _, c := range [][2]int{{-1, 0}, {0, -1}, {2, 0}, {0, 4}, {3, 1}, {math.MaxInt, 0}, {0, math.MaxInt}, {math.MinInt, 0}, {0, math.MinInt}} {
		u, v, w2, e := scan.Direction(2, 4, c[0], c[1], one, one, one)
		code(t, "Direction", listText([]num.Num{u, v, w2}) == "0 0 0", e, api.ErrArg)
		u, v, w2, e = scan.Direction(3, 4, c[0], c[1], one, one, one)
		code(t, "Direction", listText([]num.Num{u, v, w2}) == "0 0 0", e, api.ErrSize)
	}
	for i := range 2 {
		for j := range 4 {
			if _, _, _, e := scan.Direction(2, 4, i, j, one, one, one); e != api.OK {
				t.Errorf("Direction of %d, %d: %d", i, j, e)
			}
		}
	}
}

func TestDistances(t *testing.T) {
	third := fraction(1, 3)
	for _, c := range []struct {
		lambda num.Num
		text   string
		e      api.Errno
	}{
		{num.Int(1), "1048576", api.OK},
		{num.Int(1), "-1048576", api.OK},
		{num.Int(1), "1048576000001/1000000", api.ErrArg},
		{num.Int(1), "-1048576000001/1000000", api.ErrArg},
		{num.Int(1), "1048577", api.ErrArg},
		{third, "1048576/3", api.OK},
		{third, "-1048576/3", api.OK},
		{third, "349526", api.ErrArg},
		{third, "-349526", api.ErrArg},
		{num.Int(5), "5242880", api.OK},
		{num.Int(5), "5242881", api.ErrArg},
		{num.Int(1), "1e400", api.ErrArg},
		{num.Int(1), "1e-400", api.OK},
		{num.Int(1), "1i", api.ErrArg},
		{num.Int(1), "1+1i", api.ErrArg},
		{num.Int(1), "1048577i", api.ErrArg},
		{num.Int(1), "0", api.OK},
	} {
		g, e := scan.Travel(2, 2, num.Int(1), num.Int(1), c.lambda, parse(t, c.text))
		if c.e != api.OK {
			noGrid(t, "Travel over "+c.text, g, e, c.e)
		} else if rows, cols := g.Size(); rows != 2 || cols != 2 || e != api.OK {
			t.Errorf("Travel over %s: %d rows of %d, %d", c.text, rows, cols, e)
		}
	}
}

// isBox tests a cell of a grid of boxes.
func isBox(t testing.TB, what string, g boxes, i, j int, e api.Errno, lo, hi complex128) {
	t.Helper()
	b, f := g.At(i, j)
	if b.Lo() != lo || b.Hi() != hi || e != api.OK || f != api.OK {
		t.Errorf("%s: %v, %v, %d, want %v, %v", what, b.Lo(), b.Hi(), e, lo, hi)
	}
}

func TestTravel(t *testing.T) {
	half, one := fraction(1, 2), num.Int(1)
	quarters := []complex128{1, -1i, -1, 1i}
	for k := -8; k <= 8; k++ {
		g, e := scan.Travel(1, 1, half, half, one, fraction(k, 4))
		c := quarters[(k+8)%4]
		isBox(t, strconv.Itoa(k)+" quarters of the wavelength", g, 0, 0, e, c, c)
	}
	g, e := scan.Travel(1, 2, half, half, one, one)
	isBox(t, "straight on", g, 0, 0, e, 1, 1)
	isBox(t, "a mode that fades", g, 0, 1, e, 0, 0)
	g, e = scan.Travel(4, 4, half, half, one, num.Int(0))
	for i := range 4 {
		for j := range 4 {
			c := complex128(1)
			if i == 2 || j == 2 {
				c = 0
			}
			isBox(t, "no distance", g, i, j, e, c, c)
		}
	}
	// Across with 1/2, the root of 3/4 is left.
	g, e = scan.Travel(1, 4, half, half, one, one)
	b, _ := g.At(0, 1)
	sin, cos := math.Sincos(-2 * math.Pi * math.Sqrt(0.75))
	if c := b.Lo(); math.Abs(real(c)-cos) > 1e-10 || math.Abs(imag(c)-sin) > 1e-10 || e != api.OK {
		t.Errorf("Travel aside: %v, %v, %d", b.Lo(), b.Hi(), e)
	}
}

// TestPhases computes the weights by the chapter's formula.
func TestPhases(t *testing.T) {
	d := dice(7)
	for range 40 {
		p := d.plane()
		distance := d.real().Mul(fraction(1<<d.below(10), 7))
		g, e := p.travel(distance)
		if rows, cols := g.Size(); rows != p.rows || cols != p.cols || e != api.OK {
			t.Fatalf("Travel: %d rows of %d, %d", rows, cols, e)
		}
		for i := range p.rows {
			for j := range p.cols {
				b, _ := g.At(i, j)
				if want := weight(p.rest(i, j), distance); !b.Same(want) {
					t.Errorf("mode %d, %d: %v, %v, want %v, %v", i, j, b.Lo(), b.Hi(), want.Lo(), want.Hi())
				}
			}
		}
	}
}

// weight returns the weight of a mode for its rest 1/lambda^2 - p^2 - q^2.
func weight(rest, distance num.Num) box.Box {
	if !less(num.Int(0), rest) {
		return box.Box{}
	}
	x := rest.Mul(distance).Mul(distance)
	square, _ := box.Around(x, x)
	root, _ := square.Sqrt()
	a, b := root.Ends()
	lo, _ := num.Complex(complex(a, 0))
	hi, _ := num.Complex(complex(b, 0))
	f := lo.Floor(40)
	up := hi.Neg().Floor(40).Neg()
	var out box.Box
	if less(distance, num.Int(0)) {
		out, _ = box.Turn(f, up)
	} else {
		out, _ = box.Turn(up.Neg(), f.Neg())
	}
	return out
}

// TestRationalPhases has modes whose phases are known: with 3/5 of a turn across, 4/5 are left for the distance.
func TestRationalPhases(t *testing.T) {
	one := num.Int(1)
	for k := -20; k <= 20; k++ {
		g, e := scan.Travel(1, 4, fraction(5, 12), one, one, fraction(5*k, 16))
		c := []complex128{1, -1i, -1, 1i}[(k+20)%4]
		isBox(t, strconv.Itoa(k)+" quarters of a turn", g, 0, 1, e, c, c)
		isBox(t, strconv.Itoa(k)+" quarters of a turn", g, 0, 3, e, c, c)
		g, e = scan.Travel(4, 1, one, fraction(5, 12), one, fraction(5*k, 24))
		b, _ := g.At(1, 0)
		re, im := b.Parts()
		cos := fraction([]int{2, 1, -1, -2, -1, 1}[(k+24)%6], 2)
		sin2 := one.Sub(cos.Mul(cos))
		if !re.Has(cos) || !im.Square().Has(sin2) || e != api.OK {
			t.Errorf("%d sixths of a turn: %v, %v, %d", k, b.Lo(), b.Hi(), e)
		}
		down := k%6 == 1 || k%6 == 2 || k%6 == -4 || k%6 == -5
		up := k%6 == -1 || k%6 == -2 || k%6 == 4 || k%6 == 5
		if down != (b.Side() < 0) || up != (b.Side() > 0) {
			t.Errorf("%d sixths of a turn: %v, %v", k, b.Lo(), b.Hi())
		}
		if wide := b.Hi() - b.Lo(); real(wide) > 0x1p-36 || imag(wide) > 0x1p-36 {
			t.Errorf("%d sixths of a turn: %v, %v", k, b.Lo(), b.Hi())
		}
	}
}

// TestWays is P8.6 for the weights.
func TestWays(t *testing.T) {
	d := dice(8)
	for range 20 {
		p := d.plane()
		a, b := d.real(), d.real()
		keep, _ := p.keep()
		first, e1 := p.travel(a)
		second, e2 := p.travel(b)
		both, e3 := p.travel(a.Add(b))
		back, e4 := p.travel(a.Neg())
		if e1 != api.OK || e2 != api.OK || e3 != api.OK || e4 != api.OK {
			t.Fatalf("Travel: %d, %d, %d, %d", e1, e2, e3, e4)
		}
		for i := range p.rows {
			for j := range p.cols {
				x, _ := first.At(i, j)
				y, _ := second.At(i, j)
				z, _ := both.At(i, j)
				c, _ := back.At(i, j)
				if _, ok := x.Mul(y).Meet(z); !ok {
					t.Errorf("mode %d, %d: the ways %s and %s do not meet", i, j, a.Text(), b.Text())
				}
				if !c.Same(x.Conj()) {
					t.Errorf("mode %d, %d: the way %s back", i, j, a.Text())
				}
				if k, _ := keep.At(i, j); x.Norm().Has(num.Int(1)) != k {
					t.Errorf("mode %d, %d of the way %s: kept %v", i, j, a.Text(), k)
				}
			}
		}
	}
}

// TestGreatPlanes has as many modes as there can be.
func TestGreatPlanes(t *testing.T) {
	p := plane{64, 64, fraction(51, 100), fraction(49, 100), num.Int(1)}
	distance := parse(t, "123456.789")
	g, e := p.travel(distance)
	keep, f := p.keep()
	if e != api.OK || f != api.OK {
		t.Fatalf("Travel: %d, Keep: %d", e, f)
	}
	for i := range 64 {
		for j := range 64 {
			rest := p.rest(i, j)
			if k, _ := keep.At(i, j); k != less(num.Int(0), rest) {
				t.Errorf("mode %d, %d: %v", i, j, k)
			}
			if b, _ := g.At(i, j); (i+j)%9 == 0 && !b.Same(weight(rest, distance)) {
				t.Errorf("mode %d, %d: %v, %v", i, j, b.Lo(), b.Hi())
			}
		}
	}
}
