package scan

import (
	"waveport/api"
	"waveport/num"
)

// minMarks is the number of points that are needed to fit a plane.
const minMarks = 3

// coordinates returns the coordinates of a point.
func coordinates(s Spot) [3]num.Num {
	return [3]num.Num{s.X, s.Y, s.Z}
}

// spot returns the point with these coordinates.
func spot(c [3]num.Num) Spot {
	return Spot{c[0], c[1], c[2]}
}

// isRight reports whether the coordinates of points are real.
func isRight(points ...Spot) bool {
	for _, s := range points {
		for _, x := range coordinates(s) {
			if !x.Real() {
				return false
			}
		}
	}
	return true
}

// isFrame reports whether the points of a frame are right.
func isFrame(f Frame) bool {
	return isRight(f.Origin, f.U, f.V)
}

// dot returns the scalar product of two points.
func dot(a, b Spot) num.Num {
	var sum num.Num
	c := coordinates(b)
	for k, x := range coordinates(a) {
		sum = sum.Add(x.Mul(c[k]))
	}
	return sum
}

// moved returns a + q b.
func moved(a Spot, q num.Num, b Spot) Spot {
	c, d := coordinates(a), coordinates(b)
	for k, x := range d {
		c[k] = c[k].Add(q.Mul(x))
	}
	return spot(c)
}

// less returns a - b.
func less(a, b Spot) Spot {
	return moved(a, num.Int(-1), b)
}

// place returns the place of the position i, j.
func place(f Frame, i, j num.Num) Spot {
	return moved(moved(f.Origin, i, f.U), j, f.V)
}

// distance2 returns the square of the distance between a point and the place of the position i, j.
func distance2(f Frame, s Spot, i, j num.Num) num.Num {
	way := less(s, place(f, i, j))
	return dot(way, way)
}

// checkMarks returns the error of a list of marks that has at least so many.
func checkMarks(l []Mark, least int) api.Errno {
	if len(l) < least || len(l) > api.MaxMarks {
		return api.ErrSize
	}
	for _, m := range l {
		if !isRight(m.At) {
			return api.ErrArg
		}
	}
	return api.OK
}

// Fit returns the frame that fits marks best.
func Fit(l []Mark) (Frame, api.Errno) {
	if e := checkMarks(l, minMarks); e != api.OK {
		return Frame{}, e
	}
	positions := make([][]num.Num, len(l))
	for k, m := range l {
		positions[k] = []num.Num{num.Int(1), num.Int(int64(m.I)), num.Int(int64(m.J))}
	}
	var origin, u, v [3]num.Num
	for axis := range origin {
		coordinate := func(s Spot) num.Num { return coordinates(s)[axis] }
		x, e := fit(positions, l, coordinate)
		if e != api.OK {
			return Frame{}, e
		}
		origin[axis], u[axis], v[axis] = x[0], x[1], x[2]
	}
	return Frame{spot(origin), spot(u), spot(v)}, api.OK
}

// fit returns the numbers with which the positions of marks give a coordinate of their points best.
func fit(positions [][]num.Num, l []Mark, coordinate func(s Spot) num.Num) ([]num.Num, api.Errno) {
	b := make([]num.Num, len(l))
	for k, m := range l {
		b[k] = coordinate(m.At)
	}
	return num.Least(positions, b)
}

// Residual returns the greatest square of the distance of a mark from its place in the frame.
func Residual(f Frame, l []Mark) (num.Num, api.Errno) {
	if e := checkMarks(l, 1); e != api.OK {
		return num.Num{}, e
	}
	if !isFrame(f) {
		return num.Num{}, api.ErrArg
	}
	var greatest num.Num
	for _, m := range l {
		x := distance2(f, m.At, num.Int(int64(m.I)), num.Int(int64(m.J)))
		if x.Cmp(greatest) > 0 {
			greatest = x
		}
	}
	return greatest, api.OK
}

// Skew returns the scalar product of the directions of a frame.
func Skew(f Frame) (num.Num, api.Errno) {
	if !isFrame(f) {
		return num.Num{}, api.ErrArg
	}
	return dot(f.U, f.V), api.OK
}

// Straight returns the frame with the part along U taken off V.
func Straight(f Frame) (Frame, api.Errno) {
	if !isFrame(f) {
		return Frame{}, api.ErrArg
	}
	q, e := dot(f.U, f.V).Div(dot(f.U, f.U))
	if e != api.OK {
		return Frame{}, e
	}
	return Frame{f.Origin, f.U, moved(f.V, q.Neg(), f.U)}, api.OK
}

// Place returns the place of the position i, j.
func Place(f Frame, i, j num.Num) (Spot, api.Errno) {
	if !isFrame(f) || !i.Real() || !j.Real() {
		return Spot{}, api.ErrArg
	}
	return place(f, i, j), api.OK
}

// Position returns the position whose place is nearest to a point, and the square of their distance.
func Position(f Frame, s Spot) (i, j, off num.Num, e api.Errno) {
	if !isFrame(f) || !isRight(s) {
		return num.Num{}, num.Num{}, num.Num{}, api.ErrArg
	}
	u, v, way := coordinates(f.U), coordinates(f.V), coordinates(less(s, f.Origin))
	rows := make([][]num.Num, len(u))
	for k := range rows {
		rows[k] = []num.Num{u[k], v[k]}
	}
	x, e := num.Least(rows, way[:])
	if e != api.OK {
		return num.Num{}, num.Num{}, num.Num{}, e
	}
	return x[0], x[1], distance2(f, s, x[0], x[1]), api.OK
}
