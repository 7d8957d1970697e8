package num

import "waveport/api"

// sides returns the numbers of rows and columns of a matrix, and whether it is valid.
func sides[T any](m [][]T) (rows, columns int, ok bool) {
	if len(m) == 0 {
		return 0, 0, true
	}
	for _, row := range m {
		if len(row) != len(m[0]) {
			return 0, 0, false
		}
	}
	return len(m), len(m[0]), len(m) <= api.MaxSide && len(m[0]) <= api.MaxSide
}

func square[T any](m [][]T) bool {
	rows, columns, ok := sides(m)
	return ok && rows == columns
}

// constant returns n as a T.
func constant[T Field[T]](n int64) T {
	var t T
	return t.Of(Int(n))
}

// blank returns a matrix for the elements to be written to.
func blank[T any](rows, columns int) [][]T {
	m := make([][]T, rows)
	for i := range m {
		m[i] = make([]T, columns)
	}
	return m
}

// widened returns a matrix with the columns of m and more behind them.
func widened[T any](m [][]T, more int) [][]T {
	out := make([][]T, len(m))
	for i, row := range m {
		out[i] = make([]T, len(row)+more)
		copy(out[i], row)
	}
	return out
}

// Lift returns the matrix of the Ts for exact numbers.
func Lift[T Field[T]](m [][]Num) [][]T {
	var t T
	out := make([][]T, len(m))
	for i, row := range m {
		out[i] = make([]T, len(row))
		for k, x := range row {
			out[i][k] = t.Of(x)
		}
	}
	return out
}

// Identity returns the identity matrix with n rows.
func Identity[T Field[T]](n int) [][]T {
	n = max(0, min(n, api.MaxSide))
	m := blank[T](n, n)
	for i, row := range m {
		for k := range row {
			row[k] = constant[T](0)
		}
		row[i] = constant[T](1)
	}
	return m
}

// Product returns the product of two matrices.
func Product[T Field[T]](a, b [][]T) ([][]T, api.Errno) {
	rows, inner, ok := sides(a)
	height, columns, fine := sides(b)
	if !ok || !fine || inner != height {
		return nil, api.ErrSize
	}
	m := blank[T](rows, columns)
	for i, row := range m {
		for k := range row {
			sum := a[i][0].Mul(b[0][k])
			for j := 1; j < inner; j++ {
				sum = sum.Add(a[i][j].Mul(b[j][k]))
			}
			row[k] = sum
		}
	}
	return m, api.OK
}

// Adjoint returns the conjugate transpose of a matrix.
func Adjoint[T Field[T]](m [][]T) ([][]T, api.Errno) {
	rows, columns, ok := sides(m)
	if !ok {
		return nil, api.ErrSize
	}
	out := blank[T](columns, rows)
	for i, row := range m {
		for k, x := range row {
			out[k][i] = x.Conj()
		}
	}
	return out, api.OK
}

// pivot returns the first row at or below row r whose element in column c is Clear, or -1.
func pivot[T Field[T]](m [][]T, r, c int) int {
	for i := r; i < len(m); i++ {
		if m[i][c].Clear() {
			return i
		}
	}
	return -1
}

// eliminate does the elimination of the square matrix at the left of m on m itself. It returns the column at which it stops, or the number of rows, and the number of exchanges.
func eliminate[T Field[T]](m [][]T) (stop, exchanges int) {
	for c := range m {
		p := pivot(m, c, c)
		if p < 0 {
			return c, exchanges
		}
		if p != c {
			m[c], m[p] = m[p], m[c]
			exchanges++
		}
		clearBelow(m, c, c)
	}
	return len(m), exchanges
}

// clearBelow subtracts row r of m from each row below it as often as makes the element in column c 0, without computing that element. The element of row r is Clear, so it divides.
func clearBelow[T Field[T]](m [][]T, r, c int) {
	for i := r + 1; i < len(m); i++ {
		f, _ := m[i][c].Div(m[r][c])
		for k := c + 1; k < len(m[i]); k++ {
			m[i][k] = m[i][k].Sub(f.Mul(m[r][k]))
		}
	}
}

// Det returns the determinant of a matrix.
func Det[T Field[T]](m [][]T) (T, api.Errno) {
	var none T
	if !square(m) {
		return none, api.ErrSize
	}
	if len(m) == 0 {
		return constant[T](1), api.OK
	}
	m = widened(m, 0)
	stop, exchanges := eliminate(m)
	if stop < len(m) {
		if zeroFrom(m, stop) {
			return constant[T](0), api.OK
		}
		return none, api.ErrSingular
	}
	d := m[0][0]
	for c := 1; c < len(m); c++ {
		d = d.Mul(m[c][c])
	}
	if exchanges%2 == 1 {
		d = d.Neg()
	}
	return d, api.OK
}

// zeroFrom reports whether the elements of column c from row c on are all 0.
func zeroFrom[T Field[T]](m [][]T, c int) bool {
	zero := constant[T](0)
	for i := c; i < len(m); i++ {
		if !m[i][c].Same(zero) {
			return false
		}
	}
	return true
}

// substitute returns the x with m x = b, where b is column k of m behind elimination, which did not stop.
func substitute[T Field[T]](m [][]T, k int) []T {
	x := make([]T, len(m))
	for c := len(m) - 1; c >= 0; c-- {
		s := m[c][k]
		for j := c + 1; j < len(m); j++ {
			s = s.Sub(m[c][j].Mul(x[j]))
		}
		x[c], _ = s.Div(m[c][c])
	}
	return x
}

// Solve returns the x with m x = b.
func Solve[T Field[T]](m [][]T, b []T) ([]T, api.Errno) {
	if !square(m) || len(b) != len(m) {
		return nil, api.ErrSize
	}
	w := widened(m, 1)
	for i, row := range w {
		row[len(m)] = b[i]
	}
	if stop, _ := eliminate(w); stop < len(w) {
		return nil, api.ErrSingular
	}
	return substitute(w, len(w)), api.OK
}

// Inverse returns the inverse of a matrix. The columns of the identity take part in one elimination, each as the b of a Solve.
func Inverse[T Field[T]](m [][]T) ([][]T, api.Errno) {
	if !square(m) {
		return nil, api.ErrSize
	}
	n := len(m)
	w := widened(m, n)
	for i, row := range Identity[T](n) {
		copy(w[i][n:], row)
	}
	if stop, _ := eliminate(w); stop < n {
		return nil, api.ErrSingular
	}
	out := blank[T](n, n)
	for k := range n {
		for i, x := range substitute(w, n+k) {
			out[i][k] = x
		}
	}
	return out, api.OK
}
