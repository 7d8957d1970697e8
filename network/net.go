// Package network is layer 4: scattering matrices of devices with 1 to 8 ports, over any number type, and sweeps of them. See shared/doc/04-network.md.
package network

import (
	"slices"

	"waveport/api"
	"waveport/num"
)

// Net is the scattering matrix of a device, with a reference impedance for each port. The zero value has no ports. A Net never changes, so several of them may share rows.
type Net[T num.Field[T]] struct {
	z []num.Num
	s [][]T
}

// New returns the network with the reference impedances z and the scattering matrix s.
func New[T num.Field[T]](z []num.Num, s [][]T) (Net[T], api.Errno) {
	if e := check(z, s); e != api.OK {
		return Net[T]{}, e
	}
	return Net[T]{slices.Clone(z), copied(s)}, api.OK
}

// check returns the error of New.
func check[T num.Field[T]](z []num.Num, s [][]T) api.Errno {
	if len(z) < 1 || len(z) > api.MaxPorts || len(s) != len(z) {
		return api.ErrSize
	}
	for _, row := range s {
		if len(row) != len(z) {
			return api.ErrSize
		}
	}
	if !allPositive(z) {
		return api.ErrArg
	}
	return api.OK
}

// positive reports whether x is real and above 0.
func positive(x num.Num) bool {
	return x.Real() && x.Cmp(num.Num{}) > 0
}

func allPositive(l []num.Num) bool {
	for _, x := range l {
		if !positive(x) {
			return false
		}
	}
	return true
}

// of returns x as a T.
func of[T num.Field[T]](x num.Num) T {
	var t T
	return t.Of(x)
}

// unit returns the element of the identity matrix in a row and a column.
func unit[T num.Field[T]](i, j int) T {
	if i == j {
		return of[T](num.Int(1))
	}
	return of[T](num.Num{})
}

// square returns the matrix with n rows and columns that has these elements.
func square[T any](n int, element func(i, j int) T) [][]T {
	m := make([][]T, n)
	for i := range m {
		m[i] = make([]T, n)
		for j := range m[i] {
			m[i][j] = element(i, j)
		}
	}
	return m
}

// copied returns a square matrix with the elements of m.
func copied[T any](m [][]T) [][]T {
	return square(len(m), func(i, j int) T { return m[i][j] })
}

// Ports returns the number of ports.
func (n Net[T]) Ports() int {
	return len(n.z)
}

// hasPort reports whether n has a port with this number.
func (n Net[T]) hasPort(port int) bool {
	return 1 <= port && port <= len(n.z)
}

// Ref returns the reference impedance of port i.
func (n Net[T]) Ref(i int) (num.Num, api.Errno) {
	if !n.hasPort(i) {
		return num.Num{}, api.ErrArg
	}
	return n.z[i-1], api.OK
}

// At returns the element of the scattering matrix in row i and column j.
func (n Net[T]) At(i, j int) (T, api.Errno) {
	if !n.hasPort(i) || !n.hasPort(j) {
		var none T
		return none, api.ErrArg
	}
	return n.s[i-1][j-1], api.OK
}

// Equal reports whether two networks have the same ports, reference impedances and elements.
func Equal[T num.Field[T]](a, b Net[T]) bool {
	return sameRefs(a, b) && slices.EqualFunc(a.s, b.s, sameRow[T])
}

func sameRow[T num.Field[T]](a, b []T) bool {
	return slices.EqualFunc(a, b, func(x, y T) bool { return x.Same(y) })
}

// sameRefs reports whether two networks have as many ports and the same reference impedances.
func sameRefs[T num.Field[T]](a, b Net[T]) bool {
	return slices.EqualFunc(a.z, b.z, num.Num.Same)
}

// Drive returns the waves that leave the ports when the waves a enter them.
func Drive[T num.Field[T]](n Net[T], a []T) ([]T, api.Errno) {
	if len(a) != n.Ports() {
		return nil, api.ErrSize
	}
	b := make([]T, len(a))
	for i, row := range n.s {
		b[i] = row[0].Mul(a[0])
		for j := 1; j < len(a); j++ {
			b[i] = b[i].Add(row[j].Mul(a[j]))
		}
	}
	return b, api.OK
}
