package transform

import (
	"waveport/api"
	"waveport/num"
)

// Window returns the n weights of a window.
func Window(kind, n int) ([]num.Num, api.Errno) {
	if n < 1 || n > api.MaxLength {
		return nil, api.ErrSize
	}
	w := make([]num.Num, n)
	for k := range w {
		x, e := weight(kind, int64(2*k-n+1), int64(n+1))
		if e != api.OK {
			return nil, e
		}
		w[k] = x
	}
	return w, api.OK
}

// weight returns the weight of a window at p/q of the way from its middle to its ends, where it would be 0.
func weight(kind int, p, q int64) (num.Num, api.Errno) {
	switch kind {
	case api.WindowFlat:
		return num.Int(1), api.OK
	case api.WindowTriangle:
		return num.New(q-max(p, -p), 0, q)
	case api.WindowParabola:
		return num.New(q*q-p*p, 0, q*q)
	}
	return num.Num{}, api.ErrArg
}

// Weigh returns the elements of x multiplied by weights.
func Weigh[T num.Field[T]](x []T, f []num.Num) ([]T, api.Errno) {
	if len(x) != len(f) || len(x) > api.MaxLength {
		return nil, api.ErrSize
	}
	out := make([]T, len(x))
	for k, a := range x {
		out[k] = a.Mul(of[T](f[k]))
	}
	return out, api.OK
}

// Times returns the products of the elements of x and y.
func Times[T num.Field[T]](x, y []T) ([]T, api.Errno) {
	if len(x) != len(y) || len(x) > api.MaxLength {
		return nil, api.ErrSize
	}
	out := make([]T, len(x))
	for k, a := range x {
		out[k] = a.Mul(y[k])
	}
	return out, api.OK
}
