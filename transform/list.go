package transform

import (
	"waveport/api"
	"waveport/num"
)

// Shift returns x with its elements moved cyclically.
func Shift[T num.Field[T]](x []T, by int) ([]T, api.Errno) {
	n := len(x)
	if n > api.MaxLength {
		return nil, api.ErrSize
	}
	out := make([]T, n)
	for j, a := range x {
		out[(j+by%n+n)%n] = a
	}
	return out, api.OK
}

// Convolve returns the cyclic convolution of x and y.
func Convolve[T num.Field[T]](x, y []T) ([]T, api.Errno) {
	n := len(x)
	if n > api.MaxLength || len(y) != n {
		return nil, api.ErrSize
	}
	return sums(x, func(i, j int) T { return y[(j-i+n)%n] }), api.OK
}

// Steps returns the sums of the first elements of x: the step response of an impulse response.
func Steps[T num.Field[T]](x []T) ([]T, api.Errno) {
	if len(x) > api.MaxLength {
		return nil, api.ErrSize
	}
	out := make([]T, len(x))
	for j, a := range x {
		if j > 0 {
			a = out[j-1].Add(a)
		}
		out[j] = a
	}
	return out, api.OK
}

// Energy returns the sum of the products of the elements of x and their conjugates.
func Energy[T num.Field[T]](x []T) (T, api.Errno) {
	if len(x) > api.MaxLength {
		var none T
		return none, api.ErrSize
	}
	if len(x) == 0 {
		return of[T](num.Num{}), api.OK
	}
	sum := x[0].Mul(x[0].Conj())
	for _, a := range x[1:] {
		sum = sum.Add(a.Mul(a.Conj()))
	}
	return sum, api.OK
}

// Extend returns the spectrum of a real response whose elements at 0 and at the first frequencies are dc and x.
func Extend[T num.Field[T]](x []T, dc T) ([]T, api.Errno) {
	m := len(x) + 1
	n := 2 * m
	if !isLength(n) {
		return nil, api.ErrSize
	}
	out := make([]T, n)
	out[0], out[m] = dc, of[T](num.Num{})
	for k := 1; k < m; k++ {
		out[k], out[n-k] = x[k-1], x[k-1].Conj()
	}
	return out, api.OK
}

// Zero returns an estimate of the element at 0 of a spectrum whose elements at the first frequencies are x.
func Zero[T num.Field[T]](x []T) (T, api.Errno) {
	if len(x) < 2 || len(x) > api.MaxLength {
		var none T
		return none, api.ErrSize
	}
	e := x[0].Add(x[0].Sub(x[1]))
	return e.Add(e.Conj()).Mul(part[T](2)), api.OK
}
