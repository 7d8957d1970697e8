package calibrate

import (
	"slices"

	"waveport/api"
	"waveport/num"
)

// maxThrus is the greatest number of thrus of a calibration.
const maxThrus = 64

// checkSet returns the error of a calibration.
func checkSet[T num.Field[T]](c Set[T]) api.Errno {
	if !within(len(c.Ports), 1, api.MaxPorts) || len(c.Enter) != len(c.Ports) {
		return api.ErrSize
	}
	return api.OK
}

// checkMatrix returns the error of a calibration, or that of a matrix for it.
func checkMatrix[T num.Field[T]](c Set[T], m [][]T) api.Errno {
	if e := checkSet(c); e != api.OK {
		return e
	}
	if len(m) != len(c.Ports) {
		return api.ErrSize
	}
	for _, row := range m {
		if len(row) != len(m) {
			return api.ErrSize
		}
	}
	return api.OK
}

// Ports returns the calibration of several ports from the terms of each one and thrus.
func Ports[T num.Field[T]](ports []Terms[T], thrus []Thru[T]) (Set[T], api.Errno) {
	if e := checkThrus(len(ports), thrus); e != api.OK {
		return Set[T]{}, e
	}
	enter, found := make([]T, len(ports)), make([]bool, len(ports))
	enter[0], found[0] = constant[T](1), true
	for range len(ports) - 1 {
		k := slices.IndexFunc(thrus, func(t Thru[T]) bool { return found[t.P] != found[t.Q] })
		if k < 0 {
			return Set[T]{}, api.ErrNone
		}
		t := thrus[k]
		from, to, wave := t.P, t.Q, t.Forward
		if found[t.Q] {
			from, to, wave = t.Q, t.P, t.Back
		}
		w := wave.Mul(constant[T](1).Sub(ports[t.P].Match.Mul(ports[t.Q].Match)))
		x, e := enter[from].Mul(ports[to].Tracking).Div(w)
		if e != api.OK {
			return Set[T]{}, api.ErrZero
		}
		enter[to], found[to] = x, true
	}
	return Set[T]{slices.Clone(ports), enter}, api.OK
}

// checkThrus returns the error of thrus between so many ports.
func checkThrus[T num.Field[T]](ports int, thrus []Thru[T]) api.Errno {
	if !within(ports, 1, api.MaxPorts) || len(thrus) > maxThrus {
		return api.ErrSize
	}
	for _, t := range thrus {
		if !within(t.P, 0, ports-1) || !within(t.Q, 0, ports-1) || t.P == t.Q {
			return api.ErrArg
		}
	}
	return api.OK
}

// leaving returns the factors of the waves that leave a device at each port, on their way to the receivers.
func leaving[T num.Field[T]](c Set[T]) ([]T, api.Errno) {
	out := make([]T, len(c.Ports))
	for i, p := range c.Ports {
		t, e := p.Tracking.Div(c.Enter[i])
		if e != api.OK {
			return nil, api.ErrZero
		}
		out[i] = t
	}
	return out, api.OK
}

// Raw returns the raw matrix of a network with a scattering matrix.
func Raw[T num.Field[T]](c Set[T], s [][]T) ([][]T, api.Errno) {
	if e := checkMatrix(c, s); e != api.OK {
		return nil, e
	}
	a := square(len(s), func(i, k int) T { return unit[T](i, k).Sub(c.Ports[i].Match.Mul(s[i][k])) })
	w, e := num.Inverse(a)
	if e != api.OK {
		return nil, e
	}
	n, _ := num.Product(s, w)
	t, e := leaving(c)
	if e != api.OK {
		return nil, e
	}
	return square(len(n), func(i, k int) T {
		x := t[i].Mul(n[i][k]).Mul(c.Enter[k])
		if i == k {
			x = c.Ports[i].Directivity.Add(x)
		}
		return x
	}), api.OK
}

// Correct returns the scattering matrix for a raw matrix.
func Correct[T num.Field[T]](c Set[T], raw [][]T) ([][]T, api.Errno) {
	if e := checkMatrix(c, raw); e != api.OK {
		return nil, e
	}
	t, e := leaving(c)
	if e != api.OK || slices.ContainsFunc(t, func(x T) bool { return !x.Clear() }) {
		return nil, api.ErrZero
	}
	x := square(len(raw), func(i, k int) T {
		y := raw[i][k]
		if i == k {
			y = y.Sub(c.Ports[i].Directivity)
		}
		y, _ = y.Div(t[i])
		y, _ = y.Div(c.Enter[k]) // it is Clear: leaving divided by it
		return y
	})
	a := square(len(x), func(i, k int) T { return unit[T](i, k).Add(c.Ports[i].Match.Mul(x[i][k])) })
	w, e := num.Inverse(a)
	if e != api.OK {
		return nil, e
	}
	return num.Product(x, w)
}
