package transform_test

import (
	"math"
	"slices"
	"strconv"
	"testing"

	"waveport/api"
	"waveport/box"
	"waveport/num"
	"waveport/transform"
)

func TestGateExamples(t *testing.T) {
	y := list(t, "10 -2+2i -2 -2-2i")
	for _, c := range []struct {
		g           api.Gate
		rest        api.Gate
		cut, gated  string
		touchedWith string
	}{
		{api.Gate{From: 0, Count: 1}, api.Gate{From: 1, Count: 3}, "1 0 0 0", "1 1 1 1", "1 3"},
		{api.Gate{From: 1, Count: 3}, api.Gate{From: 0, Count: 1}, "0 2 3 4", "9 -3+2i -3 -3-2i", "0"},
		{api.Gate{From: 3, Count: 2}, api.Gate{From: 1, Count: 2}, "1 0 0 4", "5 1+4i -3 1-4i", "1 2"},
		{api.Gate{From: 2, Count: 0}, api.Gate{From: 2, Count: 4}, "0 0 0 0", "0 0 0 0", ""},
		{api.Gate{From: 2, Count: 4}, api.Gate{From: 2, Count: 0}, "1 2 3 4", "10 -2+2i -2 -2-2i", ""},
	} {
		r, e := transform.Rest(c.g, 4)
		if r != c.rest || e != api.OK {
			t.Errorf("Rest of %v: %v, %d", c.g, r, e)
		}
		l, e := transform.Cut(list(t, "1 2 3 4"), c.g)
		is(t, "Cut", l, e, c.cut)
		l, e = transform.Gated(y, factors(t, 4), c.g)
		is(t, "Gated", l, e, c.gated)
		at, e := transform.Touched(list(t, "1 2 3 4"), c.g, 1)
		if positions(at) != c.touchedWith || e != api.OK {
			t.Errorf("Touched by %v: %v, %d", c.g, at, e)
		}
	}
	for guard, want := range map[int]string{math.MinInt: "", -1: "", 0: "", 1: "", 2: "2", 3: "2", math.MaxInt: "2"} {
		at, e := transform.Touched(list(t, "1 0 5 0"), api.Gate{Count: 1}, guard)
		if positions(at) != want || e != api.OK {
			t.Errorf("Touched with the guard %d: %v, %d", guard, at, e)
		}
	}
}

func positions(l []int) string {
	s := ""
	for i, k := range l {
		if i > 0 {
			s += " "
		}
		s += strconv.Itoa(k)
	}
	return s
}

// badGates returns gates that are not valid for n positions.
func badGates(n int) []api.Gate {
	var l []api.Gate
	for _, k := range []int{math.MinInt, -n - 1, -n, -1} {
		l = append(l, api.Gate{From: k, Count: 1}, api.Gate{From: k}, api.Gate{Count: k}, api.Gate{From: n - 1, Count: k})
	}
	for _, k := range []int{n, n + 1, 2 * n, math.MaxInt} {
		l = append(l, api.Gate{From: k, Count: 1}, api.Gate{From: k})
	}
	for _, k := range []int{n + 1, 2 * n, math.MaxInt} {
		l = append(l, api.Gate{Count: k}, api.Gate{From: n - 1, Count: k})
	}
	return l
}

func TestGateErrors(t *testing.T) {
	try := func(n, count int, g api.Gate, cutWant, gatedWant api.Errno) {
		t.Helper()
		x, w := make([]num.Num, n), make([]num.Num, count)
		l, e := transform.Cut(x, g)
		fails(t, "Cut", l, e, cutWant)
		r, e := transform.Rest(g, n)
		if r != (api.Gate{}) || e != cutWant {
			t.Errorf("Rest of %v for %d: %v, %d, want %d", g, n, r, e, cutWant)
		}
		at, e := transform.Touched(x, g, 1)
		fails(t, "Touched", at, e, cutWant)
		l, e = transform.Gated(x, w, g)
		fails(t, "Gated", l, e, gatedWant)
	}
	for _, n := range lengths {
		for _, g := range badGates(n) {
			try(n, n, g, api.ErrArg, api.ErrArg)
			try(n, 2*n, g, api.ErrArg, api.ErrSize)
			try(n, 0, g, api.ErrArg, api.ErrSize)
		}
		l, e := transform.Gated(make([]num.Num, n), make([]num.Num, n/2), api.Gate{})
		fails(t, "Gated with too few factors", l, e, api.ErrSize)
	}
	for _, n := range []int{0, 3, 12, 65, 128} {
		for _, g := range append(badGates(n), api.Gate{}, api.Gate{Count: 1}) {
			try(n, n, g, api.ErrSize, api.ErrSize)
			try(n, 4, g, api.ErrSize, api.ErrSize)
		}
	}
	for _, n := range noLengths {
		for _, g := range []api.Gate{{}, {From: -1}, {Count: 1}} {
			if r, e := transform.Rest(g, n); r != (api.Gate{}) || e != api.ErrSize {
				t.Errorf("Rest for %d: %v, %d", n, r, e)
			}
		}
	}
}

// cutLaws tests the laws of P7.5 about Cut and Rest, and what Cut returns.
func cutLaws[T num.Field[T]](t *testing.T, x []T, g api.Gate) {
	t.Helper()
	var zero T
	zero = zero.Of(num.Num{})
	in := inside(g, len(x))
	want := slices.Clone(x)
	for k := range want {
		if !in[k] {
			want[k] = zero
		}
	}
	cut, e := transform.Cut(x, g)
	like(t, "Cut", cut, e, want)
	twice, e := transform.Cut(cut, g)
	like(t, "Cut twice", twice, e, cut)
	r, e := transform.Rest(g, len(x))
	other, f := transform.Cut(x, r)
	if e != api.OK || f != api.OK {
		t.Errorf("Rest and Cut: %d, %d", e, f)
		return
	}
	like(t, "Cut and the rest", sum(cut, other), api.OK, x)
	like(t, "the rest and Cut", sum(other, cut), api.OK, x)
	back, e := transform.Rest(r, len(x))
	if !slices.Equal(inside(back, len(x)), in) || e != api.OK {
		t.Errorf("Rest of Rest of %v: %v, %d", g, back, e)
	}
	if r.Count != len(x)-g.Count || r.From != (g.From+g.Count)%len(x) {
		t.Errorf("Rest of %v for %d: %v", g, len(x), r)
	}
	if g.Count == len(x) {
		like(t, "Cut by all positions", cut, api.OK, x)
	}
}

// TestCut is P7.5 for Cut and Rest, over numbers and boxes.
func TestCut(t *testing.T) {
	d := dice(5)
	for _, n := range lengths {
		for i, g := range gates(n) {
			if n > 16 && i%37 != 0 {
				continue
			}
			x := d.list(n)
			cutLaws(t, x, g)
			cutLaws(t, d.boxes(x), g)
		}
	}
}

// TestGated is P7.5 for Gated.
func TestGated(t *testing.T) {
	d := dice(6)
	for range 10 {
		for _, n := range exact {
			x, w := d.list(n), factors(t, n)
			response, _ := transform.Back(x, w)
			for _, g := range gates(n) {
				y, e := transform.Gated(x, w, g)
				inner, _ := transform.Cut(response, g)
				want, _ := transform.Forward(inner, w)
				like(t, "Gated", y, e, want)
				z, e := transform.Gated(y, w, g)
				like(t, "Gated twice", z, e, y)
				r, _ := transform.Rest(g, n)
				z, e = transform.Gated(x, w, r)
				like(t, "Gated and the rest", sum(y, z), e, x)
				if g.Count == n {
					like(t, "Gated by all positions", y, e, x)
				}
			}
		}
	}
}

// touched returns what Touched is to return.
func touched[T num.Field[T]](x []T, g api.Gate, guard int) []int {
	var zero T
	zero = zero.Of(num.Num{})
	var at []int
	in := inside(g, len(x))
	for k := range x {
		near := false
		for p := range x {
			distance := max(k-p, p-k)
			distance = min(distance, len(x)-distance)
			near = near || in[p] && distance <= max(guard, 0)
		}
		if near && !in[k] && !x[k].Same(zero) {
			at = append(at, k)
		}
	}
	return at
}

func TestTouched(t *testing.T) {
	d := dice(7)
	some := 0
	for _, n := range lengths {
		for i, g := range gates(n) {
			if n > 8 && i%(n*n/64) != 0 {
				continue
			}
			x := make([]num.Num, n)
			for k := range x {
				x[k] = d.sign()
			}
			b := d.boxes(x)
			for _, guard := range []int{math.MinInt, -1, 0, 1, 2, 3, n/2 - 1, n / 2, n, math.MaxInt} {
				at, e := transform.Touched(x, g, guard)
				if want := touched(x, g, guard); !slices.Equal(at, want) || e != api.OK {
					t.Errorf("Touched in %s by %v with the guard %d: %v, %d, want %v", listText(x), g, guard, at, e, want)
				}
				some += len(at)
				at, e = transform.Touched(b, g, guard)
				if want := touched(b, g, guard); !slices.Equal(at, want) || e != api.OK {
					t.Errorf("Touched in boxes by %v with the guard %d: %v, %d, want %v", g, guard, at, e, want)
				}
			}
		}
	}
	if some < 1000 {
		t.Errorf("%d positions", some)
	}
}

// TestTouchedBoxes has a box that contains 0 and other numbers.
func TestTouchedBoxes(t *testing.T) {
	x := []box.Box{between(t, 1, 1), between(t, -1, 1), between(t, 0, 0), between(t, 0, 0x1p-1074)}
	at, e := transform.Touched(x, api.Gate{Count: 1}, 9)
	if positions(at) != "1 3" || e != api.OK {
		t.Errorf("Touched: %v, %d", at, e)
	}
}
