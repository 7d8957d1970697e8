package transform

import (
	"slices"

	"waveport/api"
	"waveport/num"
)

// Grid is a rectangle of cells. The zero value has no cells. A Grid never changes.
type Grid[T any] struct{ rows [][]T }

// isSide reports whether a row or column of a grid can have n cells.
func isSide(n int) bool {
	return 1 <= n && n <= api.MaxLength
}

// NewGrid returns the grid with these rows.
func NewGrid[T any](rows [][]T) (Grid[T], api.Errno) {
	if !isSide(len(rows)) {
		return Grid[T]{}, api.ErrSize
	}
	for _, row := range rows {
		if !isSide(len(row)) || len(row) != len(rows[0]) {
			return Grid[T]{}, api.ErrSize
		}
	}
	return Grid[T]{each(rows, slices.Clone[[]T])}, api.OK
}

// Size returns the numbers of rows and of columns.
func (g Grid[T]) Size() (rows, cols int) {
	if len(g.rows) == 0 {
		return 0, 0
	}
	return len(g.rows), len(g.rows[0])
}

// At returns the cell in row i and column j.
func (g Grid[T]) At(i, j int) (T, api.Errno) {
	rows, cols := g.Size()
	if i < 0 || i >= rows || j < 0 || j >= cols {
		var none T
		return none, api.ErrArg
	}
	return g.rows[i][j], api.OK
}

// Row returns the cells of row i.
func (g Grid[T]) Row(i int) ([]T, api.Errno) {
	if i < 0 || i >= len(g.rows) {
		return nil, api.ErrArg
	}
	return slices.Clone(g.rows[i]), api.OK
}

// Turned returns the grid whose rows are the columns of g.
func (g Grid[T]) Turned() Grid[T] {
	rows, cols := g.Size()
	turned := make([][]T, cols)
	for j := range turned {
		turned[j] = make([]T, rows)
		for i, row := range g.rows {
			turned[j][i] = row[j]
		}
	}
	return Grid[T]{turned}
}

// ForwardGrid returns the transform of a grid along its rows and its columns.
func ForwardGrid[T num.Field[T]](g Grid[T], w, v []T) (Grid[T], api.Errno) {
	return bothWays(g, w, v, staged[T])
}

// BackGrid returns the inverse transform of a grid along its rows and its columns.
func BackGrid[T num.Field[T]](g Grid[T], w, v []T) (Grid[T], api.Errno) {
	return bothWays(g, w, v, inverse(staged[T]))
}

// bothWays returns the grid after a transform of each row with the factors w, and then of each column with the factors v.
func bothWays[T any](g Grid[T], w, v []T, f func(x, w []T) []T) (Grid[T], api.Errno) {
	rows, cols := g.Size()
	if !isLength(len(w)) || !isLength(len(v)) || len(w) != cols || len(v) != rows {
		return Grid[T]{}, api.ErrSize
	}
	along := func(g Grid[T], w []T) Grid[T] {
		return Grid[T]{each(g.rows, func(row []T) []T { return f(row, w) })}
	}
	return along(along(g, w).Turned(), v).Turned(), api.OK
}
