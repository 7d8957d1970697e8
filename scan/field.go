package scan

import (
	"waveport/api"
	"waveport/num"
	"waveport/transform"
)

// Carry returns the field whose modes are those of g, times their weights, as far as they are kept.
func Carry[T num.Field[T]](g transform.Grid[T], w, v []T, weights transform.Grid[T], keep transform.Grid[bool]) (transform.Grid[T], api.Errno) {
	return weighted(g, w, v, weights, keep, func(mode, weight T) (T, api.Errno) {
		return mode.Mul(weight), api.OK
	})
}

// Recover returns the field whose modes are those of g, divided by their weights, as far as they are kept.
func Recover[T num.Field[T]](g transform.Grid[T], w, v []T, weights transform.Grid[T], keep transform.Grid[bool]) (transform.Grid[T], api.Errno) {
	return weighted(g, w, v, weights, keep, func(mode, weight T) (T, api.Errno) {
		if !weight.Clear() {
			return weight, api.ErrZero
		}
		return mode.Div(weight)
	})
}

// weighted returns the field whose modes are what f makes of those of g and their weights, as far as they are kept.
func weighted[T num.Field[T]](g transform.Grid[T], w, v []T, weights transform.Grid[T], keep transform.Grid[bool], f func(mode, weight T) (T, api.Errno)) (transform.Grid[T], api.Errno) {
	modes, e := transform.ForwardGrid(g, w, v)
	if e != api.OK {
		return transform.Grid[T]{}, e
	}
	if !areAlike(g, weights) || !areAlike(g, keep) {
		return transform.Grid[T]{}, api.ErrSize
	}
	rows, cols := g.Size()
	out, e := made(rows, cols, func(i, j int) (T, api.Errno) {
		if kept, _ := keep.At(i, j); !kept {
			return of[T](num.Num{}), api.OK
		}
		mode, _ := modes.At(i, j)
		weight, _ := weights.At(i, j)
		return f(mode, weight)
	})
	if e != api.OK {
		return transform.Grid[T]{}, e
	}
	return transform.BackGrid(out, w, v)
}

// fading returns the modes that are not kept.
func fading[T any](modes transform.Grid[T], keep transform.Grid[bool]) []T {
	var out []T
	for i, row := range cells(modes) {
		for j, m := range row {
			if kept, _ := keep.At(i, j); !kept {
				out = append(out, m)
			}
		}
	}
	return out
}

// LeftOut returns the energy of the modes that are not kept.
func LeftOut[T num.Field[T]](g transform.Grid[T], w, v []T, keep transform.Grid[bool]) (T, api.Errno) {
	var none T
	modes, e := transform.ForwardGrid(g, w, v)
	if e != api.OK {
		return none, e
	}
	if !areAlike(g, keep) {
		return none, api.ErrSize
	}
	sum := of[T](num.Num{})
	for _, m := range fading(modes, keep) {
		sum = sum.Add(m.Mul(m.Conj()))
	}
	rows, cols := g.Size()
	share, _ := num.New(1, 0, int64(rows*cols))
	return sum.Mul(of[T](share)), api.OK
}

// Circular returns the two circular components of the components x and y of a field.
func Circular[T num.Field[T]](x, y transform.Grid[T]) (r, l transform.Grid[T], e api.Errno) {
	rows, cols := x.Size()
	if rows == 0 || !areAlike(x, y) {
		return transform.Grid[T]{}, transform.Grid[T]{}, api.ErrSize
	}
	quarter, _ := num.New(0, 1, 1)
	half, _ := num.New(1, 0, 2)
	with := func(join func(a, b T) T) transform.Grid[T] {
		g, _ := made(rows, cols, func(i, j int) (T, api.Errno) {
			a, _ := x.At(i, j)
			b, _ := y.At(i, j)
			return join(a, of[T](quarter).Mul(b)).Mul(of[T](half)), api.OK
		})
		return g
	}
	return with(func(a, b T) T { return a.Add(b) }), with(func(a, b T) T { return a.Sub(b) }), api.OK
}
