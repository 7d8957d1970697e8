package num

import "waveport/api"

// Rank returns the rank of a matrix.
func Rank(m [][]Num) (int, api.Errno) {
	rows, columns, ok := sides(m)
	if !ok {
		return 0, api.ErrSize
	}
	m = widened(m, 0)
	rank := 0
	for c := 0; c < columns && rank < rows; c++ {
		p := pivot(m, rank, c)
		if p < 0 {
			continue
		}
		m[rank], m[p] = m[p], m[rank]
		clearBelow(m, rank, c)
		rank++
	}
	return rank, api.OK
}

// Least returns the x for which the sum of the squares of the absolute values of m x - b is least.
func Least(m [][]Num, b []Num) ([]Num, api.Errno) {
	rows, columns, ok := sides(m)
	if !ok || len(b) != rows {
		return nil, api.ErrSize
	}
	if columns == 0 {
		return nil, api.OK
	}
	// What is left of b is orthogonal to the columns of m. Their products with each other are singular exactly if they are dependent.
	adjoint, _ := Adjoint(m)
	products, _ := Product(adjoint, m)
	right := make([]Num, columns)
	for i, row := range adjoint {
		right[i] = dot(row, b)
	}
	return Solve(products, right)
}

// dot returns the sum of the products of the elements of two vectors.
func dot(a, b []Num) Num {
	var sum Num
	for i, x := range a {
		sum = sum.Add(x.Mul(b[i]))
	}
	return sum
}

// Form returns the value of a Hermitian form at a vector.
func Form(h [][]Num, w []Num) (Num, api.Errno) {
	if !square(h) || len(w) != len(h) {
		return Num{}, api.ErrSize
	}
	var sum Num
	for i, row := range h {
		sum = sum.Add(w[i].Conj().Mul(dot(row, w)))
	}
	return sum, api.OK
}

// Definite reports whether a Hermitian matrix is positive semidefinite, or returns a vector at which its form is negative.
func Definite(h [][]Num) (bool, []Num, api.Errno) {
	if !square(h) {
		return false, nil, api.ErrSize
	}
	if !hermitian(h) {
		return false, nil, api.ErrArg
	}
	// Elimination completes one square after the other, with the diagonal elements as factors, until one of them is below 0, or is 0 in a row that is not.
	h = widened(h, 0)
	for c := range h {
		w := make([]Num, len(h))
		switch h[c][c].Cmp(Num{}) {
		case -1:
			w[c] = Int(1)
			return false, completed(h, w, c), api.OK
		case 0:
			if k := firstClear(h[c], c); k >= 0 {
				w[c], w[k] = tilted(h[c][k], h[k][k]), Int(1)
				return false, completed(h, w, c), api.OK
			}
		case 1:
			clearBelow(h, c, c)
		}
	}
	return true, nil, api.OK
}

// firstClear returns the index of the first Clear element from an index on, or -1.
func firstClear(row []Num, from int) int {
	for k := from; k < len(row); k++ {
		if row[k].Clear() {
			return k
		}
	}
	return -1
}

// tilted returns an x for which the form with the rows 0, z and Conj(z), t is negative at x, 1. For x = -s z it is t - 2 s Norm(z).
func tilted(z, t Num) Num {
	s, _ := Int(1).Add(t.Mul(t)).Div(z.Norm())
	return s.Mul(z).Neg()
}

// completed returns w with elements ahead of index c for which the squares that elimination has completed there are 0.
func completed(h [][]Num, w []Num, c int) []Num {
	for i := c - 1; i >= 0; i-- {
		if h[i][i].Clear() {
			w[i], _ = dot(h[i][i+1:], w[i+1:]).Neg().Div(h[i][i])
		}
	}
	return w
}

func hermitian(h [][]Num) bool {
	for i, row := range h {
		for k := 0; k <= i; k++ {
			if !row[k].Same(h[k][i].Conj()) {
				return false
			}
		}
	}
	return true
}
