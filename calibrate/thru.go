package calibrate

import (
	"waveport/api"
	"waveport/num"
)

// like returns 1 if x is within a quarter turn of an estimate, -1 if -x is, and 0 if neither is certain.
func like[T num.Rooted[T]](x, estimate T) int {
	var t T
	return t.Of(imaginary()).Mul(x.Mul(estimate.Conj())).Side()
}

// UnknownThru returns the calibration of two ports from their terms, the raw matrix of a reciprocal two-port, and an estimate of its transmission.
func UnknownThru[T num.Rooted[T]](ports [2]Terms[T], raw [2][2]T, estimate T) (Set[T], api.Errno) {
	q, e := raw[0][1].Mul(ports[1].Tracking).Div(raw[1][0].Mul(ports[0].Tracking))
	if e != api.OK {
		return Set[T]{}, api.ErrZero
	}
	enter, ok := q.Sqrt()
	if !ok {
		return Set[T]{}, api.ErrNone
	}
	c := Set[T]{[]Terms[T]{ports[0], ports[1]}, []T{constant[T](1), enter}}
	s, e := Correct(c, rows(raw))
	if e != api.OK {
		return Set[T]{}, e
	}
	switch like(s[1][0], estimate) {
	case 0:
		return Set[T]{}, api.ErrRoot
	case -1:
		c.Enter[1] = enter.Neg()
	}
	return c, api.OK
}
