package network

import (
	"slices"

	"waveport/api"
	"waveport/num"
)

// plus returns E + s.
func plus[T num.Field[T]](s [][]T) [][]T {
	return square(len(s), func(i, j int) T { return unit[T](i, j).Add(s[i][j]) })
}

// minus returns E - s.
func minus[T num.Field[T]](s [][]T) [][]T {
	return square(len(s), func(i, j int) T { return unit[T](i, j).Sub(s[i][j]) })
}

// over returns the product of a and the inverse of b.
func over[T num.Field[T]](a, b [][]T) ([][]T, api.Errno) {
	inverse, e := num.Inverse(b)
	if e != api.OK {
		return nil, api.ErrNone
	}
	return num.Product(a, inverse)
}

// under returns the product of the inverse of a and b.
func under[T num.Field[T]](a, b [][]T) ([][]T, api.Errno) {
	inverse, e := num.Inverse(a)
	if e != api.OK {
		return nil, api.ErrNone
	}
	return num.Product(inverse, b)
}

// divisors returns reference impedances as Ts, and whether all of them are Clear.
func divisors[T num.Field[T]](z []num.Num) ([]T, bool) {
	l := make([]T, len(z))
	for i, x := range z {
		l[i] = of[T](x)
		if !l[i].Clear() {
			return nil, false
		}
	}
	return l, true
}

// Impedance returns the impedance matrix.
func Impedance[T num.Field[T]](n Net[T]) ([][]T, api.Errno) {
	p, e := over(plus(n.s), minus(n.s))
	if e != api.OK {
		return nil, e
	}
	return square(len(p), func(i, j int) T { return p[i][j].Mul(of[T](n.z[j])) }), api.OK
}

// Admittance returns the admittance matrix.
func Admittance[T num.Field[T]](n Net[T]) ([][]T, api.Errno) {
	z, ok := divisors[T](n.z)
	p, e := over(minus(n.s), plus(n.s))
	if !ok || e != api.OK {
		return nil, api.ErrNone
	}
	return square(len(p), func(i, j int) T {
		y, _ := p[i][j].Div(z[i])
		return y
	}), api.OK
}

// FromImpedance returns the network with an impedance matrix.
func FromImpedance[T num.Field[T]](z []num.Num, m [][]T) (Net[T], api.Errno) {
	if e := check(z, m); e != api.OK {
		return Net[T]{}, e
	}
	d, ok := divisors[T](z)
	if !ok {
		return Net[T]{}, api.ErrNone
	}
	q := square(len(m), func(i, j int) T {
		x, _ := m[i][j].Div(d[j])
		return x
	})
	sum := square(len(q), func(i, j int) T { return q[i][j].Add(unit[T](i, j)) })
	difference := square(len(q), func(i, j int) T { return q[i][j].Sub(unit[T](i, j)) })
	return found(z, sum, difference)
}

// FromAdmittance returns the network with an admittance matrix.
func FromAdmittance[T num.Field[T]](z []num.Num, m [][]T) (Net[T], api.Errno) {
	if e := check(z, m); e != api.OK {
		return Net[T]{}, e
	}
	q := square(len(m), func(i, j int) T { return of[T](z[i]).Mul(m[i][j]) })
	return found(z, plus(q), minus(q))
}

// found returns the network with the reference impedances z and the scattering matrix that is the inverse of sum times difference.
func found[T num.Field[T]](z []num.Num, sum, difference [][]T) (Net[T], api.Errno) {
	s, e := under(sum, difference)
	if e != api.OK {
		return Net[T]{}, e
	}
	return Net[T]{slices.Clone(z), s}, api.OK
}

// Renormalize returns the same device with other reference impedances.
func Renormalize[T num.Field[T]](n Net[T], z []num.Num) (Net[T], api.Errno) {
	if len(z) != n.Ports() {
		return Net[T]{}, api.ErrSize
	}
	if !allPositive(z) {
		return Net[T]{}, api.ErrArg
	}
	more, less := make([]num.Num, len(z)), make([]num.Num, len(z)) // 1 + r and 1 - r
	for i, x := range z {
		r, _ := x.Div(n.z[i])
		more[i], less[i] = num.Int(1).Add(r), num.Int(1).Sub(r)
	}
	s, e := over(mixture(n.s, less, more), mixture(n.s, more, less))
	if e != api.OK {
		return Net[T]{}, e
	}
	return Net[T]{slices.Clone(z), s}, api.OK
}

// mixture returns the sum of the diagonal matrix x and the rows of s times those of y.
func mixture[T num.Field[T]](s [][]T, x, y []num.Num) [][]T {
	return square(len(s), func(i, j int) T {
		var first num.Num
		if i == j {
			first = x[i]
		}
		return of[T](first).Add(of[T](y[i]).Mul(s[i][j]))
	})
}
