package scan_test

import (
	"slices"
	"strings"
	"testing"

	"waveport/api"
	"waveport/num"
	"waveport/scan"
)

// The tests of this file are about the rules that hold for all functions: P1, R2, R3 and R4.

// TestMemory is R4: it spoils the results, and looks at the arguments and what is behind their ends.
func TestMemory(t *testing.T) {
	d := dice(20)
	marks := []scan.Mark{mark(t, 0, 0, "1 2 3"), mark(t, 1, 0, "2 0 0"), mark(t, 0, 1, "1 3 0"), mark(t, 9, 9, "9 9 9")}
	ticks := track(t, "0 0,10 5,20 7,99 99")
	values := samples(t, "0 0,10 5,20 7,99 99")
	w, v := list(t, "1 -1 99"), list(t, "1 1i 99")
	holes := [][2]int{{1, 1}, {9, 9}}
	g, weights, keep := d.grid(t, 2, 2), d.weights(t, 2, 2), marked(t, "xx;x.")
	text := func() string {
		var words []string
		for k := range marks {
			words = append(words, spotText(marks[k].At), listText([]num.Num{ticks[k].Time, ticks[k].Place, values[k].Time, values[k].Value}))
		}
		words = append(words, listText(w), listText(v), gridText(g), gridText(weights), flagText(keep), fractionText(holes))
		return strings.Join(words, ";")
	}
	before := text()
	scan.Fit(marks[:3])
	scan.Residual(scan.Frame{}, marks[:3])
	scan.Where(ticks[:3], num.Int(1))
	scan.When(ticks[:3], num.Int(1))
	for range 2 {
		l, missing, e := scan.Line(ticks[:3], values[:3], num.Int(-1), num.Int(1), 9)
		if listText(l) != "0 0 1 2 3 4 5 6 7" || !slices.Equal(missing, []int{0}) || e != api.OK {
			t.Errorf("Line: %s, %v, %d", listText(l), missing, e)
		}
		for k := range l[:cap(l)] {
			l[:cap(l)][k] = num.Int(98)
		}
		for k := range missing[:cap(missing)] {
			missing[:cap(missing)][k] = 98
		}
	}
	scan.Carry(g, w[:2], v[:2], weights, keep)
	scan.Recover(g, w[:2], v[:2], weights, keep)
	scan.LeftOut(g, w[:2], v[:2], keep)
	scan.Fill(g, holes[:1], keep)
	scan.Circular(g, weights)
	scan.Pattern(g, w[:2], v[:2])
	scan.Peak(g, w[:2], v[:2])
	if got := text(); got != before {
		t.Errorf("the arguments became %s, from %s", got, before)
	}
}

func fractionText(holes [][2]int) string {
	var l []num.Num
	for _, h := range holes {
		l = append(l, num.Int(int64(h[0])), num.Int(int64(h[1])))
	}
	return listText(l)
}

// TestEmptyLists is R3: a nil list is an empty one.
func TestEmptyLists(t *testing.T) {
	g, keep := numbers(t, "1 2"), marked(t, "x.")
	for _, none := range [][]num.Num{nil, {}} {
		h, e := scan.Carry(g, none, none, g, keep)
		noGrid(t, "Carry", h, e, api.ErrSize)
		h, e = scan.Recover(grid{}, none, none, grid{}, flags{})
		noGrid(t, "Recover", h, e, api.ErrSize)
		x, e := scan.LeftOut(grid{}, none, none, flags{})
		fails(t, "LeftOut", x, e, api.ErrSize)
		p, e := scan.Pattern(grid{}, none, none)
		noGrid(t, "Pattern", p, e, api.ErrSize)
	}
	for _, none := range [][]scan.Mark{nil, {}} {
		f, e := scan.Fit(none)
		noFrame(t, "Fit", f, e, api.ErrSize)
		r, e := scan.Residual(scan.Frame{}, none)
		fails(t, "Residual", r, e, api.ErrSize)
	}
	for _, none := range [][]scan.Tick{nil, {}} {
		x, e := scan.Where(none, num.Int(0))
		fails(t, "Where", x, e, api.ErrSize)
		x, e = scan.When(none, num.Int(0))
		fails(t, "When", x, e, api.ErrSize)
	}
	for _, none := range [][]sample{nil, {}} {
		l, missing, e := scan.Line(track(t, "0 0"), none, num.Int(0), num.Int(1), 1)
		code(t, "Line", len(l) == 0 && len(missing) == 0, e, api.ErrSize)
	}
	for _, none := range [][][2]int{nil, {}} {
		h, e := scan.Fill(g, none, keep)
		noGrid(t, "Fill", h, e, api.ErrNone)
		h, e = scan.Fill(g, none, marked(t, "xx"))
		isGrid(t, "Fill", h, e, "1 2")
	}
}

// TestZeroValues has arguments that were never set.
func TestZeroValues(t *testing.T) {
	q, e := scan.Skew(scan.Frame{})
	is(t, "Skew", q, e, "0")
	f, e := scan.Straight(scan.Frame{})
	noFrame(t, "Straight", f, e, api.ErrZero)
	s, e := scan.Place(scan.Frame{}, num.Num{}, num.Num{})
	code(t, "Place", spotText(s) == "0 0 0", e, api.OK)
	noPosition(t, scan.Frame{}, scan.Spot{}, api.ErrSingular)
	r, e := scan.Residual(scan.Frame{}, make([]scan.Mark, 1))
	is(t, "Residual", r, e, "0")
	x, e := scan.Where(make([]scan.Tick, 1), num.Num{})
	is(t, "Where", x, e, "0")
	x, e = scan.When(make([]scan.Tick, 1), num.Num{})
	is(t, "When", x, e, "0")
	l, missing, e := scan.Line(make([]scan.Tick, 1), make([]sample, 1), num.Num{}, num.Int(1), 1)
	code(t, "Line", listText(l) == "0" && len(missing) == 0, e, api.OK)
	plane{}.allFail(t, 0, 0, num.Num{}, api.ErrSize)
	plane{rows: 1, cols: 1}.allFail(t, 0, 0, num.Num{}, api.ErrArg)
}
