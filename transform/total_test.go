package transform_test

import (
	"testing"

	"waveport/api"
	"waveport/num"
	"waveport/transform"
)

// The tests of this file are about the rules that hold for all functions: P1, R2, R3 and R4.

// TestMemory is R4 for lists: it spoils the results, and looks at the arguments and what is behind their ends.
func TestMemory(t *testing.T) {
	d := dice(22)
	for n := 1; n <= 8; n *= 2 {
		longX, longY := d.list(n+2), d.list(n+2)
		before := listText(longX) + " " + listText(longY)
		x, y := longX[:n], longY[:n]
		results := func() [][]num.Num {
			var out [][]num.Num
			keep := func(l []num.Num, e api.Errno) {
				if e != api.OK {
					t.Errorf("result %d: %d", len(out), e)
				}
				out = append(out, l)
			}
			for _, f := range functions[num.Num]() {
				keep(f.f(x, y))
			}
			keep(transform.Weigh(x, y))
			keep(transform.Times(x, y))
			keep(transform.Cut(x, api.Gate{Count: n}))
			keep(transform.Gated(x, y, api.Gate{Count: n}))
			keep(transform.Shift(x, 0))
			keep(transform.Convolve(x, y))
			keep(transform.Steps(x))
			if n > 1 {
				keep(transform.Extend(x[:n-1], y[0]))
			}
			keep(transform.Window(api.WindowFlat, n))
			if n <= 4 {
				keep(transform.Exact(n))
			}
			return out
		}
		for _, l := range results() {
			for k := range l[:cap(l)] {
				l[:cap(l)][k] = num.Int(99)
			}
		}
		transform.Energy(x)
		transform.Touched(x, api.Gate{Count: 1}, 3)
		if n > 1 {
			transform.Zero(x)
		}
		if got := listText(longX) + " " + listText(longY); got != before {
			t.Errorf("the lists became %s, from %s", got, before)
		}
		for i, l := range results() {
			if len(l) > 0 && l[0].Same(num.Int(99)) {
				t.Errorf("result %d shares memory", i)
			}
		}
	}
}

// TestMemoryOfGrids is R4 for grids.
func TestMemoryOfGrids(t *testing.T) {
	d := dice(23)
	rows := [][]num.Num{d.list(3), d.list(3)}
	g := made(t, [][]num.Num{rows[0][:2], rows[1][:2]})
	before := listText(rows[0]) + ";" + listText(rows[1])
	text := func() string {
		out := ""
		for _, row := range cells(g) {
			out += listText(row) + ";"
		}
		return out
	}
	first := text()
	for range 2 {
		row, _ := g.Row(0)
		row[1] = num.Int(99)
		_ = append(row, num.Int(98))
	}
	turned := g.Turned()
	row, _ := turned.Row(0)
	row[0] = num.Int(99)
	v := d.list(2)
	factors := listText(v)
	transform.ForwardGrid(g, v, v)
	transform.BackGrid(g, v, v)
	if got := listText(rows[0]) + ";" + listText(rows[1]); got != before || text() != first || listText(v) != factors {
		t.Errorf("the rows became %s, the grid %s", got, text())
	}
	rows[0][0], rows[1][1] = num.Int(99), num.Int(99)
	rows[0] = nil
	if text() != first {
		t.Errorf("the grid became %s", text())
	}
	sameGrid(t, "Turned", turned, api.OK, g.Turned())
}

// TestNothing has nil and empty lists, which are the same.
func TestNothing(t *testing.T) {
	for _, none := range [][]num.Num{nil, {}} {
		for _, f := range functions[num.Num]() {
			l, e := f.f(none, none)
			fails(t, f.name, l, e, api.ErrSize)
		}
		l, e := transform.Weigh(none, none)
		fails(t, "Weigh", l, e, api.OK)
		l, e = transform.Times(none, none)
		fails(t, "Times", l, e, api.OK)
		l, e = transform.Cut(none, api.Gate{})
		fails(t, "Cut", l, e, api.ErrSize)
		l, e = transform.Gated(none, none, api.Gate{})
		fails(t, "Gated", l, e, api.ErrSize)
		at, e := transform.Touched(none, api.Gate{}, 1)
		fails(t, "Touched", at, e, api.ErrSize)
		l, e = transform.Shift(none, 7)
		fails(t, "Shift", l, e, api.OK)
		l, e = transform.Convolve(none, none)
		fails(t, "Convolve", l, e, api.OK)
		l, e = transform.Steps(none)
		fails(t, "Steps", l, e, api.OK)
		x, e := transform.Energy(none)
		if x.Clear() || e != api.OK {
			t.Errorf("Energy: %s, %d", x.Text(), e)
		}
		l, e = transform.Extend(none, num.Int(2))
		is(t, "Extend", l, e, "2 0")
		x, e = transform.Zero(none)
		if x.Clear() || e != api.ErrSize {
			t.Errorf("Zero: %s, %d", x.Text(), e)
		}
		g, e := transform.NewGrid([][]num.Num{none})
		noGrid(t, "NewGrid", g, e, api.ErrSize)
	}
}
