package scan_test

import (
	"math"
	"testing"

	"waveport/api"
	"waveport/num"
	"waveport/scan"
)

// spot returns the point with the coordinates of a text.
func spot(t testing.TB, s string) scan.Spot {
	t.Helper()
	l := list(t, s)
	return scan.Spot{X: l[0], Y: l[1], Z: l[2]}
}

func spotText(s scan.Spot) string { return listText([]num.Num{s.X, s.Y, s.Z}) }

// frame returns the frame with these points.
func frame(t testing.TB, origin, u, v string) scan.Frame {
	t.Helper()
	return scan.Frame{Origin: spot(t, origin), U: spot(t, u), V: spot(t, v)}
}

func frameText(f scan.Frame) string {
	return spotText(f.Origin) + ", " + spotText(f.U) + ", " + spotText(f.V)
}

// nowhere is the frame whose points are all 0.
const nowhere = "0 0 0, 0 0 0, 0 0 0"

// isFrame tests a frame of a result.
func isFrame(t testing.TB, what string, f scan.Frame, e api.Errno, want string) {
	t.Helper()
	if frameText(f) != want || e != api.OK {
		t.Errorf("%s: %s, %d, want %s", what, frameText(f), e, want)
	}
}

// noFrame tests an error, and that there is no frame with it.
func noFrame(t testing.TB, what string, f scan.Frame, e, want api.Errno) {
	t.Helper()
	code(t, what, frameText(f) == nowhere, e, want)
}

// mark returns the point of a text at the position i, j.
func mark(t testing.TB, i, j int, s string) scan.Mark {
	t.Helper()
	return scan.Mark{I: i, J: j, At: spot(t, s)}
}

// slanted returns the frame of the chapter's first example.
func slanted(t testing.TB) scan.Frame {
	t.Helper()
	return frame(t, "0 0 0", "2 0 0", "1 3 0")
}

func (d *dice) spot() scan.Spot { return scan.Spot{X: d.real(), Y: d.real(), Z: d.real()} }

// frame returns a frame; now and then U and V are dependent.
func (d *dice) frame() scan.Frame {
	f := scan.Frame{Origin: d.spot(), U: d.spot(), V: d.spot()}
	if d.below(6) == 0 {
		q := d.real()
		f.V = scan.Spot{X: f.U.X.Mul(q), Y: f.U.Y.Mul(q), Z: f.U.Z.Mul(q)}
	}
	return f
}

// place returns the place of a position, coordinate by coordinate.
func place(f scan.Frame, i, j num.Num) scan.Spot {
	at := func(o, u, v num.Num) num.Num { return u.Mul(i).Add(v.Mul(j)).Add(o) }
	return scan.Spot{X: at(f.Origin.X, f.U.X, f.V.X), Y: at(f.Origin.Y, f.U.Y, f.V.Y), Z: at(f.Origin.Z, f.U.Z, f.V.Z)}
}

// product returns the scalar product of two points.
func product(a, b scan.Spot) num.Num {
	return a.X.Mul(b.X).Add(a.Y.Mul(b.Y)).Add(a.Z.Mul(b.Z))
}

// apart returns a - b.
func apart(a, b scan.Spot) scan.Spot {
	return scan.Spot{X: a.X.Sub(b.X), Y: a.Y.Sub(b.Y), Z: a.Z.Sub(b.Z)}
}

// square returns the square of the distance between two points.
func square(a, b scan.Spot) num.Num { return product(apart(a, b), apart(a, b)) }

// misses returns the squares of the distances between marks and the places of their positions.
func misses(f scan.Frame, l []scan.Mark) []num.Num {
	var out []num.Num
	for _, m := range l {
		out = append(out, square(m.At, place(f, num.Int(int64(m.I)), num.Int(int64(m.J)))))
	}
	return out
}

// sum returns the sum of numbers.
func sum(l []num.Num) num.Num {
	var s num.Num
	for _, x := range l {
		s = s.Add(x)
	}
	return s
}

// greatest returns the greatest of real numbers that are not below 0.
func greatest(l []num.Num) num.Num {
	var s num.Num
	for _, x := range l {
		if less(s, x) {
			s = x
		}
	}
	return s
}

// onLine reports whether the positions of marks lie on a straight line: all triangles of three of them are flat.
func onLine(l []scan.Mark) bool {
	for _, a := range l {
		for _, b := range l {
			for _, c := range l {
				if (b.I-a.I)*(c.J-a.J) != (c.I-a.I)*(b.J-a.J) {
					return false
				}
			}
		}
	}
	return true
}

// coordinatesOf returns the coordinates of a frame, to be changed.
func coordinatesOf(f *scan.Frame) []*num.Num {
	var l []*num.Num
	for _, s := range []*scan.Spot{&f.Origin, &f.U, &f.V} {
		l = append(l, &s.X, &s.Y, &s.Z)
	}
	return l
}

func TestFit(t *testing.T) {
	l := []scan.Mark{mark(t, 0, 0, "0 0 0"), mark(t, 1, 0, "2 0 0"), mark(t, 0, 1, "1 3 0")}
	f, e := scan.Fit(l)
	isFrame(t, "Fit of the first example", f, e, "0 0 0, 2 0 0, 1 3 0")
	f, e = scan.Fit(append(l, mark(t, 1, 1, "3 3 4")))
	isFrame(t, "Fit of four marks", f, e, "0 0 -1, 2 0 2, 1 3 2")
	f, e = scan.Fit([]scan.Mark{mark(t, 3, 3, "1 1 1"), mark(t, 3, 3, "3 1 1"), mark(t, 4, 3, "5 1 1"), mark(t, 3, 4, "2 7 1")})
	isFrame(t, "Fit of two marks of one position", f, e, "-7 -17 1, 3 0 0, 0 6 0")
	const far = math.MaxInt
	f, e = scan.Fit([]scan.Mark{mark(t, 0, 0, "1 2 3"), mark(t, far, 0, "9223372036854775808 2 3"), mark(t, 0, far, "1 2 9223372036854775810")})
	isFrame(t, "Fit of far positions", f, e, "1 2 3, 1 0 0, 0 0 1")
	f, e = scan.Fit([]scan.Mark{mark(t, 0, 0, "1 2 3"), mark(t, math.MinInt, 0, "9223372036854775809 2 3"), mark(t, 0, math.MinInt, "1 2 -9223372036854775805")})
	isFrame(t, "Fit of positions below", f, e, "1 2 3, -1 0 0, 0 0 1")
}

func TestFitErrors(t *testing.T) {
	many := func(n int) []scan.Mark {
		l := make([]scan.Mark, n)
		for k := range l {
			l[k] = mark(t, k%5, k/5, "0 0 1")
		}
		return l
	}
	spoilt := func(n, at int, s string) []scan.Mark {
		l := many(n)
		l[at].At = spot(t, s)
		return l
	}
	for i, c := range []struct {
		l []scan.Mark
		e api.Errno
	}{
		{nil, api.ErrSize},
		{many(0), api.ErrSize},
		{many(1), api.ErrSize},
		{many(2), api.ErrSize},
		{many(3), api.ErrSingular},
		{many(5), api.ErrSingular},
		{many(6), api.OK},
		{many(32), api.OK},
		{many(33), api.ErrSize},
		{spoilt(2, 0, "1i 0 0"), api.ErrSize},
		{spoilt(33, 0, "1i 0 0"), api.ErrSize},
		{spoilt(3, 0, "1i 0 0"), api.ErrArg},
		{spoilt(6, 0, "1i 0 0"), api.ErrArg},
		{spoilt(6, 3, "0 1+1i 0"), api.ErrArg},
		{spoilt(6, 5, "0 0 1-1i"), api.ErrArg},
		{make([]scan.Mark, 3), api.ErrSingular},
		{[]scan.Mark{{I: 1, J: 2}, {I: 3, J: 5}, {I: -1, J: -1}}, api.ErrSingular},
		{[]scan.Mark{{I: 1, J: 2}, {I: 1, J: 5}, {I: 1, J: -1}, {I: 1}}, api.ErrSingular},
		{[]scan.Mark{{I: 1, J: 2}, {I: 3, J: 5}, {I: -1, J: -2}}, api.OK},
	} {
		f, e := scan.Fit(c.l)
		if c.e != api.OK {
			noFrame(t, "case", f, e, c.e)
		}
		if e != c.e {
			t.Errorf("case %d: %d, want %d", i, e, c.e)
		}
	}
}

// TestBestFit is the first part of P8.2: what the frame misses is orthogonal to 1, I and J for each coordinate, and any other frame misses more.
func TestBestFit(t *testing.T) {
	d := dice(1)
	for range 60 {
		n := 3 + d.below(6)
		l, exact := make([]scan.Mark, n), make([]scan.Mark, n)
		was := d.frame()
		for k := range l {
			l[k] = scan.Mark{I: d.below(7) - 3, J: d.below(7) - 3, At: d.spot()}
			exact[k] = l[k]
			exact[k].At = place(was, num.Int(int64(l[k].I)), num.Int(int64(l[k].J)))
		}
		f, e := scan.Fit(l)
		back, e2 := scan.Fit(exact)
		if onLine(l) {
			noFrame(t, "Fit on a line", f, e, api.ErrSingular)
			noFrame(t, "Fit of places on a line", back, e2, api.ErrSingular)
			continue
		}
		isFrame(t, "Fit of places", back, e2, frameText(was))
		r, e3 := scan.Residual(was, exact)
		is(t, "Residual of places", r, e3, "0")
		r, e3 = scan.Residual(f, l)
		is(t, "Residual", r, e3, greatest(misses(f, l)).Text())
		least := sum(misses(f, l))
		for k := range coordinatesOf(&f) {
			other := f
			x := coordinatesOf(&other)[k]
			for _, by := range []num.Num{fraction(1, 100), fraction(-1, 100), d.clear().Re()} {
				old := *x
				*x = old.Add(by)
				if more := sum(misses(other, l)); by.Clear() && !less(least, more) || e != api.OK {
					t.Errorf("%s misses %s, %s misses %s", frameText(f), least.Text(), frameText(other), more.Text())
				}
				*x = old
			}
		}
	}
}

func TestResidual(t *testing.T) {
	f := slanted(t)
	fine, off := mark(t, 1, 1, "3 3 0"), mark(t, 1, 0, "2 0 1/2")
	bad := mark(t, 1, 0, "2 0 1i")
	for i, c := range []struct {
		l    []scan.Mark
		want string
	}{
		{[]scan.Mark{fine}, "0"},
		{[]scan.Mark{off}, "1/4"},
		{[]scan.Mark{fine, off}, "1/4"},
		{[]scan.Mark{off, fine}, "1/4"},
		{[]scan.Mark{off, mark(t, -1, 2, "1 5 2"), fine}, "6"},
		{[]scan.Mark{mark(t, math.MaxInt, 0, "18446744073709551613 0 0")}, "1"},
		{[]scan.Mark{mark(t, 0, math.MinInt, "-9223372036854775808 -27670116110564327424 3")}, "9"},
		{make([]scan.Mark, 32), "0"},
	} {
		r, e := scan.Residual(f, c.l)
		if r.Text() != c.want || e != api.OK {
			t.Errorf("case %d: %s, %d, want %s", i, r.Text(), e, c.want)
		}
	}
	for i, c := range []struct {
		l []scan.Mark
		e api.Errno
	}{
		{nil, api.ErrSize},
		{[]scan.Mark{}, api.ErrSize},
		{make([]scan.Mark, 33), api.ErrSize},
		{append(make([]scan.Mark, 32), bad), api.ErrSize},
		{[]scan.Mark{bad}, api.ErrArg},
		{[]scan.Mark{fine, off, bad}, api.ErrArg},
	} {
		r, e := scan.Residual(f, c.l)
		fails(t, "case "+string(rune('0'+i)), r, e, c.e)
	}
	f.U.Y = parse(t, "1i")
	r, e := scan.Residual(f, nil)
	fails(t, "Residual of nothing in a frame that is not right", r, e, api.ErrSize)
}

// TestFramesThatAreNotRight spoils each coordinate.
func TestFramesThatAreNotRight(t *testing.T) {
	l := []scan.Mark{mark(t, 0, 0, "0 0 0"), mark(t, 1, 0, "2 0 0"), mark(t, 0, 1, "1 3 0")}
	for k := range 9 {
		f := slanted(t)
		x := coordinatesOf(&f)[k]
		*x = x.Add(parse(t, "1i"))
		r, e := scan.Residual(f, l)
		fails(t, "Residual", r, e, api.ErrArg)
		r, e = scan.Skew(f)
		fails(t, "Skew", r, e, api.ErrArg)
		g, e := scan.Straight(f)
		noFrame(t, "Straight", g, e, api.ErrArg)
		f.U = scan.Spot{X: f.U.X.Sub(num.Int(2)), Y: f.U.Y, Z: f.U.Z}
		g, e = scan.Straight(f)
		noFrame(t, "Straight without U", g, e, api.ErrArg)
		s, e := scan.Place(f, num.Int(1), num.Int(2))
		code(t, "Place", spotText(s) == "0 0 0", e, api.ErrArg)
		noPosition(t, f, spot(t, "1 2 3"), api.ErrArg)
	}
	for _, c := range []string{"1i 0 0", "0 1+1i 0", "0 0 -1i"} {
		noPosition(t, slanted(t), spot(t, c), api.ErrArg)
		noPosition(t, scan.Frame{}, spot(t, c), api.ErrArg)
	}
	for _, c := range [][2]string{{"1i", "1"}, {"1", "1i"}, {"1-1i", "1+1i"}} {
		s, e := scan.Place(slanted(t), parse(t, c[0]), parse(t, c[1]))
		code(t, "Place", spotText(s) == "0 0 0", e, api.ErrArg)
	}
}

// noPosition tests an error of Position, and that nothing comes with it.
func noPosition(t testing.TB, f scan.Frame, s scan.Spot, want api.Errno) {
	t.Helper()
	i, j, off, e := scan.Position(f, s)
	code(t, "Position", listText([]num.Num{i, j, off}) == "0 0 0", e, want)
}

func TestStraight(t *testing.T) {
	q, e := scan.Skew(slanted(t))
	is(t, "Skew", q, e, "2")
	f, e := scan.Straight(slanted(t))
	isFrame(t, "Straight", f, e, "0 0 0, 2 0 0, 0 3 0")
	f, e = scan.Straight(frame(t, "1 2 3", "1 1 0", "0 0 0"))
	isFrame(t, "Straight without V", f, e, "1 2 3, 1 1 0, 0 0 0")
	f, e = scan.Straight(frame(t, "1 2 3", "1 1 1", "-2 -2 -2"))
	isFrame(t, "Straight in a line", f, e, "1 2 3, 1 1 1, 0 0 0")
	f, e = scan.Straight(frame(t, "1 2 3", "0 0 0", "1 0 0"))
	noFrame(t, "Straight without U", f, e, api.ErrZero)
}

// TestFrames is the rest of P8.2.
func TestFrames(t *testing.T) {
	d := dice(2)
	for range 200 {
		f := d.frame()
		q, e := scan.Skew(f)
		is(t, "Skew", q, e, product(f.U, f.V).Text())
		straight, e := scan.Straight(f)
		if product(f.U, f.U).Clear() {
			q, e2 := scan.Skew(straight)
			is(t, "Skew of Straight", q, e2, "0")
			if e != api.OK || spotText(straight.Origin) != spotText(f.Origin) || spotText(straight.U) != spotText(f.U) || !parallel(apart(straight.V, f.V), f.U) {
				t.Errorf("Straight of %s: %s, %d", frameText(f), frameText(straight), e)
			}
		} else {
			noFrame(t, "Straight", straight, e, api.ErrZero)
		}
		i, j := d.real(), d.real()
		s, e := scan.Place(f, i, j)
		if spotText(s) != spotText(place(f, i, j)) || e != api.OK {
			t.Errorf("Place: %s, %d", spotText(s), e)
		}
		if parallel(f.U, f.V) {
			noPosition(t, f, s, api.ErrSingular)
			continue
		}
		x, y, off, e := scan.Position(f, s)
		if !x.Same(i) || !y.Same(j) || off.Clear() || e != api.OK {
			t.Errorf("Position of the place of %s, %s: %s, %s, %s, %d", i.Text(), j.Text(), x.Text(), y.Text(), off.Text(), e)
		}
		// The way from the nearest place is orthogonal to the plane.
		s = d.spot()
		x, y, off, e = scan.Position(f, s)
		way := apart(s, place(f, x, y))
		if product(way, f.U).Clear() || product(way, f.V).Clear() || !off.Same(product(way, way)) || e != api.OK {
			t.Errorf("Position of %s in %s: %s, %s, %s, %d", spotText(s), frameText(f), x.Text(), y.Text(), off.Text(), e)
		}
	}
}

// parallel reports whether two points are linearly dependent.
func parallel(a, b scan.Spot) bool {
	ab := product(a, b)
	return ab.Mul(ab).Same(product(a, a).Mul(product(b, b)))
}

func TestPosition(t *testing.T) {
	i, j, off, e := scan.Position(slanted(t), spot(t, "3 3 1"))
	if i.Text() != "1" || j.Text() != "1" || off.Text() != "1" || e != api.OK {
		t.Errorf("Position of the first example: %s, %s, %s, %d", i.Text(), j.Text(), off.Text(), e)
	}
	for _, c := range [][2]string{{"0 0 0", "0 0 0"}, {"0 0 0", "1 0 0"}, {"1 0 0", "0 0 0"}, {"1 2 3", "-2 -4 -6"}} {
		noPosition(t, frame(t, "1 1 1", c[0], c[1]), spot(t, "1 1 1"), api.ErrSingular)
	}
	s, e := scan.Place(slanted(t), parse(t, "1/2"), num.Int(2))
	if spotText(s) != "3 6 0" || e != api.OK {
		t.Errorf("Place: %s, %d", spotText(s), e)
	}
	s, e = scan.Place(frame(t, "1 2 3", "0 0 0", "0 0 0"), num.Int(7), num.Int(2))
	if spotText(s) != "1 2 3" || e != api.OK {
		t.Errorf("Place in a point: %s, %d", spotText(s), e)
	}
}
