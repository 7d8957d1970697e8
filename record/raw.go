package record

import (
	"waveport/api"
	"waveport/num"
)

// Raw returns the matrix that takes the incident waves a to the reflected waves b.
func Raw[T num.Field[T]](a, b [][]T) ([][]T, api.Errno) {
	if !square(a) || !square(b) || len(a) != len(b) {
		return nil, api.ErrSize
	}
	inverse, e := num.Inverse(a)
	if e != api.OK {
		return nil, e
	}
	return num.Product(b, inverse)
}

// Raws returns the raw matrices of a sweep.
func Raws(w Waves) ([][][]num.Num, api.Errno) {
	if !ValidWaves(w) {
		return nil, api.ErrArg
	}
	var out [][][]num.Num
	for k := range w.Freqs {
		m, e := Raw(w.A[k], w.B[k])
		if e != api.OK {
			return nil, e
		}
		out = append(out, m)
	}
	return out, api.OK
}

// Power returns the power of a wave at a reference impedance.
func Power(w, z num.Num) (float32, api.Errno) {
	if !positive(z) {
		return 0, api.ErrArg
	}
	power, _ := w.Norm().Div(z)
	return real(power.Near64()), api.OK
}

// Level returns the first point and source whose incident power is above a limit, and whether there is one.
func Level(w Waves, z num.Num, limit float32) (point, source int, over bool, e api.Errno) {
	most, e := num.Complex64(complex(limit, 0))
	if e != api.OK || limit < 0 || !ValidWaves(w) || !positive(z) {
		return 0, 0, false, api.ErrArg
	}
	most = most.Mul(z) // z is above 0, so it may stand on either side
	for k, a := range w.A {
		for s := range a {
			if a[s][s].Norm().Cmp(most) > 0 {
				return k, s + 1, true, api.OK
			}
		}
	}
	return 0, 0, false, api.OK
}
