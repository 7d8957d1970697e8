package scan_test

import (
	"math"
	"slices"
	"strconv"
	"strings"
	"testing"

	"waveport/api"
	"waveport/box"
	"waveport/num"
	"waveport/scan"
	"waveport/transform"
)

type (
	grid   = transform.Grid[num.Num]
	flags  = transform.Grid[bool]
	boxes  = transform.Grid[box.Box]
	sample = scan.Sample[num.Num]
)

// noLengths are numbers of points that an axis cannot have.
var noLengths = []int{math.MinInt, -64, -4, -1, 0, 3, 5, 6, 7, 12, 48, 63, 65, 96, 128, 1 << 32, 1 << 62, math.MaxInt}

// lengths are those that it can have.
var lengths = []int{1, 2, 4, 8, 16, 32, 64}

// parse returns the number with a text.
func parse(t testing.TB, s string) num.Num {
	t.Helper()
	x, e := num.Parse(s)
	if e != api.OK {
		t.Fatalf("Parse(%q): %d", s, e)
	}
	return x
}

// list returns the numbers with texts that are parted by blanks.
func list(t testing.TB, s string) []num.Num {
	t.Helper()
	var out []num.Num
	for _, w := range strings.Fields(s) {
		out = append(out, parse(t, w))
	}
	return out
}

func listText(l []num.Num) string {
	var words []string
	for _, x := range l {
		words = append(words, x.Text())
	}
	return strings.Join(words, " ")
}

// fraction returns the real number p/q.
func fraction(p, q int) num.Num {
	x, _ := num.New(int64(p), 0, int64(q))
	return x
}

// quotient returns x/y for a y that is not 0.
func quotient(x, y num.Num) num.Num {
	q, _ := x.Div(y)
	return q
}

// less reports whether x is below y.
func less(x, y num.Num) bool { return x.Cmp(y) < 0 }

// is tests a number of a result.
func is(t testing.TB, what string, x num.Num, e api.Errno, want string) {
	t.Helper()
	if x.Text() != want || e != api.OK {
		t.Errorf("%s: %s, %d, want %s", what, x.Text(), e, want)
	}
}

// fails tests an error, and that there is no number with it.
func fails(t testing.TB, what string, x num.Num, e, want api.Errno) {
	t.Helper()
	if x.Clear() || e != want {
		t.Errorf("%s: %s, %d, want %d", what, x.Text(), e, want)
	}
}

// code tests an error, and that nothing comes with it.
func code(t testing.TB, what string, empty bool, e, want api.Errno) {
	t.Helper()
	if e != want || !empty {
		t.Errorf("%s: %d, want %d, empty: %v", what, e, want, empty)
	}
}

// made returns the grid with these rows.
func made[T any](t testing.TB, rows [][]T) transform.Grid[T] {
	t.Helper()
	g, e := transform.NewGrid(rows)
	if e != api.OK {
		t.Fatalf("NewGrid of %d rows: %d", len(rows), e)
	}
	return g
}

// filled returns the grid whose cells f returns.
func filled[T any](t testing.TB, rows, cols int, f func(i, j int) T) transform.Grid[T] {
	t.Helper()
	l := make([][]T, rows)
	for i := range l {
		for j := range cols {
			l[i] = append(l[i], f(i, j))
		}
	}
	return made(t, l)
}

// cells returns the rows of a grid.
func cells[T any](g transform.Grid[T]) [][]T {
	n, _ := g.Size()
	rows := make([][]T, n)
	for i := range rows {
		rows[i], _ = g.Row(i)
	}
	return rows
}

// numbers returns the grid with a text: rows are parted by semicolons.
func numbers(t testing.TB, s string) grid {
	t.Helper()
	var rows [][]num.Num
	for _, row := range strings.Split(s, ";") {
		rows = append(rows, list(t, row))
	}
	return made(t, rows)
}

// marked returns the grid of bools with a text, in which an x is true.
func marked(t testing.TB, s string) flags {
	t.Helper()
	var rows [][]bool
	for _, row := range strings.Split(s, ";") {
		var l []bool
		for _, c := range row {
			l = append(l, c == 'x')
		}
		rows = append(rows, l)
	}
	return made(t, rows)
}

func gridText(g grid) string {
	var rows []string
	for _, row := range cells(g) {
		rows = append(rows, listText(row))
	}
	return strings.Join(rows, ";")
}

func flagText(g flags) string {
	var rows []string
	for _, row := range cells(g) {
		text := ""
		for _, x := range row {
			text += map[bool]string{true: "x", false: "."}[x]
		}
		rows = append(rows, text)
	}
	return strings.Join(rows, ";")
}

// isGrid tests a grid of numbers.
func isGrid(t testing.TB, what string, g grid, e api.Errno, want string) {
	t.Helper()
	if gridText(g) != want || e != api.OK {
		t.Errorf("%s: %s, %d, want %s", what, gridText(g), e, want)
	}
}

// sameGrid tests that two grids have the same cells.
func sameGrid[T num.Field[T]](t testing.TB, what string, g transform.Grid[T], e api.Errno, want transform.Grid[T]) {
	t.Helper()
	rows, cols := g.Size()
	n, m := want.Size()
	if rows != n || cols != m || e != api.OK {
		t.Errorf("%s: %d rows of %d, %d, want %d of %d", what, rows, cols, e, n, m)
		return
	}
	got := cells(g)
	for i, row := range cells(want) {
		if !slices.EqualFunc(got[i], row, func(x, y T) bool { return x.Same(y) }) {
			t.Errorf("%s, row %d: %v, want %v", what, i, got[i], row)
		}
	}
}

// noGrid tests an error, and that there is no grid with it.
func noGrid[T any](t testing.TB, what string, g transform.Grid[T], e, want api.Errno) {
	t.Helper()
	rows, cols := g.Size()
	code(t, what, rows == 0 && cols == 0, e, want)
}

// factors returns the exact factors of a length.
func factors(t testing.TB, n int) []num.Num {
	t.Helper()
	w, e := transform.Exact(n)
	if e != api.OK {
		t.Fatalf("Exact(%d): %d", n, e)
	}
	return w
}

// roots returns the boxes of the factors of a length.
func roots(t testing.TB, n int) []box.Box {
	t.Helper()
	w, e := transform.Roots(n)
	if e != api.OK {
		t.Fatalf("Roots(%d): %d", n, e)
	}
	return w
}

// spectrum returns the modes of a field.
func spectrum(t testing.TB, g grid) grid {
	t.Helper()
	rows, cols := g.Size()
	m, e := transform.ForwardGrid(g, factors(t, cols), factors(t, rows))
	if e != api.OK {
		t.Fatalf("ForwardGrid: %d", e)
	}
	return m
}

// field returns the field with these modes.
func field(t testing.TB, modes grid) grid {
	t.Helper()
	rows, cols := modes.Size()
	g, e := transform.BackGrid(modes, factors(t, cols), factors(t, rows))
	if e != api.OK {
		t.Fatalf("BackGrid: %d", e)
	}
	return g
}

// joined returns the results of f for the cells of two grids.
func joined[A, B, C any](t testing.TB, g transform.Grid[A], h transform.Grid[B], f func(a A, b B) C) transform.Grid[C] {
	t.Helper()
	rows, cols := g.Size()
	return filled(t, rows, cols, func(i, j int) C {
		a, _ := g.At(i, j)
		b, _ := h.At(i, j)
		return f(a, b)
	})
}

// kept returns the modes that are kept, and 0 in the place of the other ones.
func kept(t testing.TB, modes grid, keep flags) grid {
	t.Helper()
	return joined(t, modes, keep, func(m num.Num, k bool) num.Num {
		if !k {
			return num.Num{}
		}
		return m
	})
}

// constant returns a grid with the same number in all cells.
func constant(t testing.TB, rows, cols int, x num.Num) grid {
	t.Helper()
	return filled(t, rows, cols, func(i, j int) num.Num { return x })
}

// dice is a row of numbers that look random and are always the same.
type dice uint64

func (d *dice) next() uint64 {
	*d += 0x9e3779b97f4a7c15
	z := uint64(*d)
	z = (z ^ z>>30) * 0xbf58476d1ce4e5b9
	z = (z ^ z>>27) * 0x94d049bb133111eb
	return z ^ z>>31
}

func (d *dice) below(n int) int { return int(d.next() % uint64(n)) }

// small returns a number with small parts.
func (d *dice) small() num.Num {
	x, _ := num.New(int64(d.below(19)-9), int64(d.below(19)-9), int64(d.below(9)+1))
	return x
}

// clear returns a small number that is not 0.
func (d *dice) clear() num.Num {
	for {
		if x := d.small(); x.Clear() {
			return x
		}
	}
}

// real returns a small real number.
func (d *dice) real() num.Num { return d.small().Re() }

// positive returns a small real number above 0.
func (d *dice) positive() num.Num { return fraction(d.below(9)+1, d.below(9)+1) }

func (d *dice) list(n int) []num.Num {
	l := make([]num.Num, n)
	for k := range l {
		l[k] = d.small()
	}
	return l
}

// length returns one of the lengths with exact factors.
func (d *dice) length() int { return 1 << d.below(3) }

// grid returns a grid of small numbers.
func (d *dice) grid(t testing.TB, rows, cols int) grid {
	t.Helper()
	return filled(t, rows, cols, func(i, j int) num.Num { return d.small() })
}

// weights returns a grid of small numbers that are not 0.
func (d *dice) weights(t testing.TB, rows, cols int) grid {
	t.Helper()
	return filled(t, rows, cols, func(i, j int) num.Num { return d.clear() })
}

// flags returns a grid in which some cells are true.
func (d *dice) flags(t testing.TB, rows, cols int) flags {
	t.Helper()
	few := d.below(4)
	return filled(t, rows, cols, func(i, j int) bool { return d.below(4) >= few })
}

// box returns a box around a number; some are points, some are without bounds on one side.
func (d *dice) box(x num.Num) box.Box {
	w := []float64{0, 0x1p-40, 0x1p-10, 0.5}[d.below(4)]
	lo, hi := complex(-w, -w*float64(d.below(2))), complex(w*float64(d.below(2)), w)
	if d.below(30) == 0 {
		hi = complex(math.Inf(1), imag(hi))
	}
	b, _ := box.Make(lo, hi)
	return b.Add(b.Of(x))
}

func (d *dice) boxes(l []num.Num) []box.Box {
	out := make([]box.Box, len(l))
	for k, x := range l {
		out[k] = d.box(x)
	}
	return out
}

// boxGrid returns boxes around the numbers of a grid.
func (d *dice) boxGrid(t testing.TB, g grid) boxes {
	t.Helper()
	return joined(t, g, g, func(x, _ num.Num) box.Box { return d.box(x) })
}

// corners returns the box with two corners.
func corners(t testing.TB, lo, hi complex128) box.Box {
	t.Helper()
	b, e := box.Make(lo, hi)
	if e != api.OK {
		t.Fatalf("Make: %d", e)
	}
	return b
}

// named returns a grid of steps with names that end with their row and column.
func named(t testing.TB, name string, rows, cols int) transform.Grid[step] {
	t.Helper()
	return filled(t, rows, cols, func(i, j int) step {
		return step(name + strconv.Itoa(i) + strconv.Itoa(j))
	})
}
