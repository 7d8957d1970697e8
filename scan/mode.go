package scan

import (
	"waveport/api"
	"waveport/box"
	"waveport/num"
	"waveport/transform"
)

const (
	// binaryPlaces is the number of binary places of the phases, in turns.
	binaryPlaces = 40
	// farthest is the greatest distance, in wavelengths.
	farthest = 1 << 20
)

// isLength reports whether the samples along an axis can be n.
func isLength(n int) bool {
	return 1 <= n && n <= api.MaxLength && n&(n-1) == 0
}

// Order returns the signed order of the index k of an axis with n points.
func Order(n, k int) (int, api.Errno) {
	if !isLength(n) {
		return 0, api.ErrSize
	}
	if k < 0 || k >= n {
		return 0, api.ErrArg
	}
	if 2*k < n {
		return k, api.OK
	}
	return k - n, api.OK
}

// plane is a plane grid with the distances of its columns and of its rows, and a wavelength.
type plane struct {
	rows, cols     int
	dx, dy, lambda num.Num
}

// check returns the error of a plane grid.
func (p plane) check() api.Errno {
	if !isLength(p.rows) || !isLength(p.cols) {
		return api.ErrSize
	}
	if !isPositive(p.dx) || !isPositive(p.dy) || !isPositive(p.lambda) {
		return api.ErrArg
	}
	return api.OK
}

// cosine returns the direction cosine of the modes with the index k along an axis with n points with the distance d.
func (p plane) cosine(n, k int, d num.Num) num.Num {
	order, _ := Order(n, k)
	c, _ := p.lambda.Mul(num.Int(int64(order))).Div(d.Mul(num.Int(int64(n))))
	return c
}

// direction returns the direction cosines of the mode in row i and column j, and the square of the third one.
func (p plane) direction(i, j int) (u, v, w2 num.Num) {
	u, v = p.cosine(p.cols, j, p.dx), p.cosine(p.rows, i, p.dy)
	return u, v, num.Int(1).Sub(u.Mul(u)).Sub(v.Mul(v))
}

// squaredThird returns the square of the third direction cosine of the mode in row i and column j.
func (p plane) squaredThird(i, j int) num.Num {
	_, _, w2 := p.direction(i, j)
	return w2
}

// mirrored returns the grid of what f returns for each mode, where f does not depend on the signs of the orders: it is called for one of the modes that differ in signs alone.
func mirrored[T any](p plane, f func(i, j int) (T, api.Errno)) (transform.Grid[T], api.Errno) {
	corner, e := made(p.rows/2+1, p.cols/2+1, f)
	if e != api.OK {
		return transform.Grid[T]{}, e
	}
	return made(p.rows, p.cols, func(i, j int) (T, api.Errno) {
		return corner.At(min(i, p.rows-i), min(j, p.cols-j))
	})
}

// Direction returns the direction cosines of the mode in row i and column j, and the square of the third one.
func Direction(rows, cols, i, j int, dx, dy, lambda num.Num) (u, v, w2 num.Num, e api.Errno) {
	p := plane{rows, cols, dx, dy, lambda}
	e = p.check()
	if e == api.OK && (i < 0 || i >= rows || j < 0 || j >= cols) {
		e = api.ErrArg
	}
	if e != api.OK {
		return num.Num{}, num.Num{}, num.Num{}, e
	}
	u, v, w2 = p.direction(i, j)
	return u, v, w2, api.OK
}

// Keep returns which modes of a plane grid travel.
func Keep(rows, cols int, dx, dy, lambda num.Num) (transform.Grid[bool], api.Errno) {
	p := plane{rows, cols, dx, dy, lambda}
	if e := p.check(); e != api.OK {
		return transform.Grid[bool]{}, e
	}
	return mirrored(p, func(i, j int) (bool, api.Errno) { return isPositive(p.squaredThird(i, j)), api.OK })
}

// Travel returns the weights of the modes of a plane grid for a distance.
func Travel(rows, cols int, dx, dy, lambda, distance num.Num) (transform.Grid[box.Box], api.Errno) {
	p := plane{rows, cols, dx, dy, lambda}
	if e := p.check(); e != api.OK {
		return transform.Grid[box.Box]{}, e
	}
	waves, _ := distance.Div(lambda)
	squared := waves.Mul(waves)
	if !distance.Real() || squared.Cmp(num.Int(farthest*farthest)) > 0 {
		return transform.Grid[box.Box]{}, api.ErrArg
	}
	back := distance.Cmp(num.Num{}) < 0
	return mirrored(p, func(i, j int) (box.Box, api.Errno) {
		w2 := p.squaredThird(i, j)
		if !isPositive(w2) {
			return of[box.Box](num.Num{}), api.OK
		}
		return phase(w2.Mul(squared), back)
	})
}

// phase returns the box around e^(-2 pi i r), or around its conjugate, for the root r of x.
func phase(x num.Num, back bool) (box.Box, api.Errno) {
	from, to := rootEnds(x)
	if back {
		return box.Turn(from, to)
	}
	return box.Turn(to.Neg(), from.Neg())
}

// rootEnds returns numbers with few binary places on both sides of the root of a number that is not below 0.
func rootEnds(x num.Num) (from, to num.Num) {
	square, _ := box.Around(x, x)
	root, _ := square.Sqrt()
	lo, hi := root.Ends()
	from, _ = num.Complex(complex(lo, 0))
	to, _ = num.Complex(complex(hi, 0))
	return from.Floor(binaryPlaces), to.Neg().Floor(binaryPlaces).Neg()
}
