package network

import (
	"slices"

	"waveport/api"
	"waveport/num"
)

// half returns 1/2.
func half() num.Num {
	x, _ := num.New(1, 0, 2)
	return x
}

// blend makes the elements of two ports to those of two modes, or the other way round.
type blend[T num.Field[T]] func(x, y T) (T, T)

// blended returns the matrix t with the rows and then the columns with the indices p and q blended.
func blended[T num.Field[T]](t [][]T, p, q int, rows, columns blend[T]) [][]T {
	u := copied(t)
	for j := range u {
		u[p][j], u[q][j] = rows(t[p][j], t[q][j])
	}
	for _, row := range u {
		row[p], row[q] = columns(row[p], row[q])
	}
	return u
}

// Mixed returns n with each pair of ports replaced by their differential and their common mode.
func Mixed[T num.Field[T]](n Net[T], pairs [][2]int) (Net[T], api.Errno) {
	if _, e := n.claimPairs(pairs, num.Num.Same); e != api.OK {
		return Net[T]{}, e
	}
	h := of[T](half())
	rows := func(x, y T) (T, T) { return x.Sub(y), x.Add(y).Mul(h) }
	columns := func(x, y T) (T, T) { return x.Sub(y).Mul(h), x.Add(y) }
	z, s := slices.Clone(n.z), n.s
	for _, pair := range pairs {
		p, q := pair[0]-1, pair[1]-1
		s = blended(s, p, q, rows, columns)
		z[p], z[q] = z[p].Mul(num.Int(2)), z[q].Mul(half())
	}
	return Net[T]{z, s}, api.OK
}

// Single undoes Mixed.
func Single[T num.Field[T]](n Net[T], pairs [][2]int) (Net[T], api.Errno) {
	fourfold := func(x, y num.Num) bool { return x.Same(y.Mul(num.Int(4))) }
	if _, e := n.claimPairs(pairs, fourfold); e != api.OK {
		return Net[T]{}, e
	}
	h := of[T](half())
	rows := func(x, y T) (T, T) { return x.Mul(h).Add(y), y.Sub(x.Mul(h)) }
	columns := func(x, y T) (T, T) { return x.Add(y.Mul(h)), y.Mul(h).Sub(x) }
	z, s := slices.Clone(n.z), n.s
	for _, pair := range pairs {
		p, q := pair[0]-1, pair[1]-1
		s = blended(s, p, q, rows, columns)
		z[p] = z[p].Mul(half())
		z[q] = z[p]
	}
	return Net[T]{z, s}, api.OK
}
