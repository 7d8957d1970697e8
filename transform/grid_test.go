package transform_test

import (
	"math"
	"strconv"
	"testing"

	"waveport/api"
	"waveport/num"
	"waveport/transform"
)

type grid = transform.Grid[num.Num]

// made returns the grid with these rows.
func made[T any](t testing.TB, rows [][]T) transform.Grid[T] {
	t.Helper()
	g, e := transform.NewGrid(rows)
	if e != api.OK {
		t.Fatalf("NewGrid of %d rows: %d", len(rows), e)
	}
	return g
}

// cells returns the rows of a grid.
func cells[T any](g transform.Grid[T]) [][]T {
	n, _ := g.Size()
	rows := make([][]T, n)
	for i := range rows {
		rows[i], _ = g.Row(i)
	}
	return rows
}

// grid returns a grid of small numbers.
func (d *dice) grid(t testing.TB, rows, cols int) grid {
	t.Helper()
	l := make([][]num.Num, rows)
	for i := range l {
		l[i] = d.list(cols)
	}
	return made(t, l)
}

// sameGrid tests that two grids have the same cells.
func sameGrid[T num.Field[T]](t testing.TB, what string, g transform.Grid[T], e api.Errno, want transform.Grid[T]) {
	t.Helper()
	rows, cols := g.Size()
	n, m := want.Size()
	if rows != n || cols != m || e != api.OK {
		t.Errorf("%s: %d rows of %d, %d, want %d of %d", what, rows, cols, e, n, m)
		return
	}
	for i, row := range cells(want) {
		got, f := g.Row(i)
		like(t, what+", row "+strconv.Itoa(i), got, f, row)
	}
}

// noGrid tests an error, and that there is no grid with it.
func noGrid[T any](t testing.TB, what string, g transform.Grid[T], e, want api.Errno) {
	t.Helper()
	if n, m := g.Size(); n != 0 || m != 0 || e != want {
		t.Errorf("%s: %d rows of %d, %d, want %d", what, n, m, e, want)
	}
}

func TestNewGrid(t *testing.T) {
	for _, c := range []struct {
		cols []int
		e    api.Errno
	}{
		{[]int{1}, api.OK},
		{[]int{64}, api.OK},
		{[]int{3, 3}, api.OK},
		{make([]int, 0), api.ErrSize},
		{[]int{0}, api.ErrSize},
		{[]int{0, 0}, api.ErrSize},
		{[]int{65}, api.ErrSize},
		{[]int{65, 65}, api.ErrSize},
		{[]int{2, 1}, api.ErrSize},
		{[]int{1, 2}, api.ErrSize},
		{[]int{2, 0}, api.ErrSize},
		{[]int{0, 2}, api.ErrSize},
		{[]int{2, 2, 3}, api.ErrSize},
		{[]int{64, 65}, api.ErrSize},
	} {
		rows := make([][]string, len(c.cols))
		for i, n := range c.cols {
			rows[i] = make([]string, n)
			for j := range rows[i] {
				rows[i][j] = strconv.Itoa(i) + "/" + strconv.Itoa(j)
			}
		}
		g, e := transform.NewGrid(rows)
		if c.e != api.OK {
			noGrid(t, "NewGrid", g, e, c.e)
			continue
		}
		if n, m := g.Size(); n != len(rows) || m != c.cols[0] || e != api.OK {
			t.Errorf("NewGrid of %v: %d rows of %d, %d", c.cols, n, m, e)
		}
		for i, row := range rows {
			for j, want := range row {
				if x, e := g.At(i, j); x != want || e != api.OK {
					t.Errorf("cell %d, %d: %s, %d", i, j, x, e)
				}
			}
		}
	}
	for _, n := range []int{1, 63, 64, 65, 66, 200} {
		rows := make([][]struct{}, n)
		for i := range rows {
			rows[i] = make([]struct{}, 64)
		}
		g, e := transform.NewGrid(rows)
		if n > 64 {
			noGrid(t, "NewGrid of "+strconv.Itoa(n)+" rows", g, e, api.ErrSize)
		} else if rows, cols := g.Size(); rows != n || cols != 64 || e != api.OK {
			t.Errorf("NewGrid of %d rows: %d of %d, %d", n, rows, cols, e)
		}
	}
	g, e := transform.NewGrid[int](nil)
	noGrid(t, "NewGrid without rows", g, e, api.ErrSize)
}

func TestCells(t *testing.T) {
	g := made(t, [][]int{{1, 2, 3}, {4, 5, 6}})
	turned := g.Turned()
	if n, m := turned.Size(); n != 3 || m != 2 {
		t.Errorf("Turned: %d rows of %d", n, m)
	}
	for i := range 2 {
		row, e := g.Row(i)
		if len(row) != 3 || e != api.OK {
			t.Errorf("Row %d: %v, %d", i, row, e)
		}
		for j := range 3 {
			x, e := g.At(i, j)
			y, f := turned.At(j, i)
			if x != 3*i+j+1 || y != x || row[j] != x || e != api.OK || f != api.OK {
				t.Errorf("cell %d, %d: %d, %d, %d, %d, %d", i, j, x, y, row[j], e, f)
			}
		}
	}
	for _, c := range [][2]int{{-1, 0}, {0, -1}, {2, 0}, {0, 3}, {2, 3}, {1, 3}, {2, 2}, {math.MaxInt, 0}, {0, math.MaxInt}, {math.MinInt, math.MinInt}} {
		if x, e := g.At(c[0], c[1]); x != 0 || e != api.ErrArg {
			t.Errorf("cell %v: %d, %d", c, x, e)
		}
	}
	for _, i := range []int{-1, 2, 3, math.MaxInt, math.MinInt} {
		row, e := g.Row(i)
		fails(t, "Row "+strconv.Itoa(i), row, e, api.ErrArg)
	}
}

func TestNoCells(t *testing.T) {
	var none transform.Grid[string]
	noGrid(t, "the zero value", none, api.OK, api.OK)
	noGrid(t, "Turned", none.Turned(), api.OK, api.OK)
	noGrid(t, "Turned twice", none.Turned().Turned(), api.OK, api.OK)
	for _, g := range []transform.Grid[string]{none, none.Turned()} {
		row, e := g.Row(0)
		fails(t, "Row", row, e, api.ErrArg)
		if x, e := g.At(0, 0); x != "" || e != api.ErrArg {
			t.Errorf("At: %s, %d", x, e)
		}
	}
	for _, n := range []int{0, 1, 2, 64} {
		w := make([]num.Num, n)
		g, e := transform.ForwardGrid(grid{}, w, w)
		noGrid(t, "ForwardGrid", g, e, api.ErrSize)
		g, e = transform.BackGrid(grid{}, w, w)
		noGrid(t, "BackGrid", g, e, api.ErrSize)
	}
}

func TestGridErrors(t *testing.T) {
	d := dice(14)
	for _, c := range []struct {
		rows, cols, w, v int
		e                api.Errno
	}{
		{1, 1, 1, 1, api.OK},
		{2, 4, 4, 2, api.OK},
		{64, 64, 64, 64, api.OK},
		{1, 64, 64, 1, api.OK},
		{2, 4, 2, 4, api.ErrSize},
		{2, 4, 4, 4, api.ErrSize},
		{2, 4, 2, 2, api.ErrSize},
		{2, 2, 2, 1, api.ErrSize},
		{2, 2, 1, 2, api.ErrSize},
		{2, 2, 0, 2, api.ErrSize},
		{2, 2, 2, 0, api.ErrSize},
		{3, 2, 2, 3, api.ErrSize},
		{2, 3, 3, 2, api.ErrSize},
		{3, 2, 2, 4, api.ErrSize},
		{2, 3, 4, 2, api.ErrSize},
		{2, 2, 3, 2, api.ErrSize},
		{2, 2, 2, 3, api.ErrSize},
		{64, 64, 128, 64, api.ErrSize},
		{64, 64, 64, 128, api.ErrSize},
	} {
		g, w, v := d.grid(t, c.rows, c.cols), make([]num.Num, c.w), make([]num.Num, c.v)
		for i, f := range []func(grid, []num.Num, []num.Num) (grid, api.Errno){transform.ForwardGrid[num.Num], transform.BackGrid[num.Num]} {
			h, e := f(g, w, v)
			what := []string{"ForwardGrid", "BackGrid"}[i]
			if c.e != api.OK {
				noGrid(t, what, h, e, c.e)
			} else if n, m := h.Size(); n != c.rows || m != c.cols || e != api.OK {
				t.Errorf("%s: %d rows of %d, %d", what, n, m, e)
			}
		}
	}
}

// TestGrids is P7.8, and compares with the sum over all cells.
func TestGrids(t *testing.T) {
	d := dice(15)
	for range 6 {
		for _, rows := range exact {
			for _, cols := range exact {
				g, w, v := d.grid(t, rows, cols), factors(t, cols), factors(t, rows)
				sameGrid(t, "Turned twice", g.Turned().Turned(), api.OK, g)
				forward, e := transform.ForwardGrid(g, w, v)
				want := make([][]num.Num, rows)
				for k := range want {
					want[k] = make([]num.Num, cols)
					for l := range want[k] {
						for i, row := range cells(g) {
							want[k][l] = want[k][l].Add(definition(row, w, l).Mul(v[i*k%rows]))
						}
					}
				}
				sameGrid(t, "ForwardGrid", forward, e, made(t, want))
				back, e := transform.BackGrid(forward, w, v)
				sameGrid(t, "BackGrid of ForwardGrid", back, e, g)
				back, _ = transform.BackGrid(g, w, v)
				again, e := transform.ForwardGrid(back, w, v)
				sameGrid(t, "ForwardGrid of BackGrid", again, e, g)
				turned, e := transform.ForwardGrid(g.Turned(), v, w)
				sameGrid(t, "ForwardGrid of Turned", turned, e, forward.Turned())
			}
		}
	}
}

// TestGridStages compares with Fast and FastBack of the rows and columns, with any factors.
func TestGridStages(t *testing.T) {
	d := dice(16)
	for _, c := range [][2]int{{1, 8}, {8, 1}, {4, 8}, {8, 2}, {16, 4}} {
		g, w, v := d.grid(t, c[0], c[1]), make([]num.Num, c[1]), make([]num.Num, c[0])
		for _, l := range [][]num.Num{w, v} {
			for k := range l {
				l[k] = d.small().Floor(0)
			}
		}
		along := func(g grid, w []num.Num, f func(x, w []num.Num) ([]num.Num, api.Errno)) grid {
			rows := cells(g)
			for i := range rows {
				rows[i], _ = f(rows[i], w)
			}
			return made(t, rows)
		}
		h, e := transform.ForwardGrid(g, w, v)
		fast := transform.Fast[num.Num]
		sameGrid(t, "ForwardGrid", h, e, along(along(g, w, fast).Turned(), v, fast).Turned())
		h, e = transform.BackGrid(g, w, v)
		back := transform.FastBack[num.Num]
		sameGrid(t, "BackGrid", h, e, along(along(g, w, back).Turned(), v, back).Turned())
	}
}
