package calibrate

import (
	"cmp"

	"waveport/api"
	"waveport/num"
)

// LineReflect returns the calibration of two ports by thru, line and reflect, the factor of the line and the reflection of the reflect.
func LineReflect[T num.Rooted[T]](l Lines[T], estimate T) (Set[T], T, T, api.Errno) {
	u := &unknowns[T]{raw: l, estimate: estimate}
	for _, step := range []func() api.Errno{u.compare, u.findLine, u.findEnds, u.findReflect, u.finish} {
		if e := step(); e != api.OK {
			var none T
			return Set[T]{}, none, none, e
		}
	}
	return u.set, u.y, u.g, api.OK
}

// unknowns is what is found from thru, line and reflect, step by step, with the letters of the chapter.
type unknowns[T num.Rooted[T]] struct {
	raw      Lines[T]
	estimate T

	thru [][]T // C of the thru
	q    [][]T // C of the line times the inverse of that
	y, z T     // the roots: the transmission of the line, and its inverse
	d, f T     // the directivity of port 0, and its match divided by a
	n    [][]T // C of the thru without d and f
	c, e T     // the directivity of port 1, and its match divided by b
	v, w T     // the raw reflections of the reflect without d and f, and without c and e
	a, g T     // the tracking of port 0 less its directivity times its match, and the reflection of the reflect
	set  Set[T]
}

// chain returns the matrix C of a raw matrix.
func chain[T num.Field[T]](m [2][2]T) ([][]T, api.Errno) {
	if !m[1][0].Clear() {
		return nil, api.ErrZero
	}
	over := func(x T) T {
		q, _ := x.Div(m[1][0])
		return q
	}
	return [][]T{
		{over(minor(m[0][0], m[0][1], m[1][0], m[1][1]).Neg()), over(m[0][0])},
		{over(m[1][1].Neg()), over(constant[T](1))},
	}, api.OK
}

// minor returns the determinant of the matrix with the rows a, b and c, d.
func minor[T num.Field[T]](a, b, c, d T) T {
	return a.Mul(d).Sub(b.Mul(c))
}

// compare is steps 1 and 2.
func (u *unknowns[T]) compare() api.Errno {
	thru, e := chain(u.raw.Thru)
	if e != api.OK {
		return e
	}
	line, e := chain(u.raw.Line)
	if e != api.OK {
		return e
	}
	back, e := num.Inverse(thru)
	if e != api.OK {
		return e
	}
	u.thru = thru
	u.q, e = num.Product(line, back)
	return e
}

// findLine is steps 3 and 4.
func (u *unknowns[T]) findLine() api.Errno {
	q := u.q
	t := q[0][0].Add(q[1][1])
	p := minor(q[0][0], q[0][1], q[1][0], q[1][1])
	h, ok := t.Mul(t).Sub(constant[T](4).Mul(p)).Sqrt()
	if !ok {
		return api.ErrNone
	}
	more, _ := t.Add(h).Div(constant[T](2))
	less, _ := t.Sub(h).Div(constant[T](2))
	switch {
	case more.Side() == -1 && less.Side() == 1:
		u.y, u.z = more, less
	case more.Side() == 1 && less.Side() == -1:
		u.y, u.z = less, more
	default:
		return api.ErrRoot
	}
	var forth, back api.Errno
	u.d, forth = q[0][1].Div(u.z.Sub(q[0][0]))
	u.f, back = q[1][0].Div(q[1][1].Sub(u.y))
	return cmp.Or(forth, back)
}

// findEnds is steps 5 and 6.
func (u *unknowns[T]) findEnds() api.Errno {
	one := constant[T](1)
	port, e := num.Inverse([][]T{{one, u.d}, {u.f.Neg(), one}})
	if e != api.OK {
		return e
	}
	n, e := num.Product(port, u.thru)
	if e != api.OK {
		return e
	}
	u.n = n
	var left, right api.Errno
	u.c, left = n[1][0].Neg().Div(n[1][1])
	u.e, right = n[0][1].Div(n[0][0])
	if e := cmp.Or(left, right); e != api.OK {
		return e
	}
	v, w := u.raw.Reflect[0], u.raw.Reflect[1]
	u.v, left = v.Sub(u.d).Div(one.Add(u.f.Mul(v)))
	u.w, right = w.Sub(u.c).Div(one.Add(u.e.Mul(w)))
	return cmp.Or(left, right)
}

// findReflect is step 7.
func (u *unknowns[T]) findReflect() api.Errno {
	squared, e := u.v.Mul(u.n[0][0]).Div(u.w.Mul(u.n[1][1]))
	if e != api.OK {
		return e
	}
	a, ok := squared.Sqrt()
	if !ok {
		return api.ErrNone
	}
	g, e := u.v.Div(a)
	if e != api.OK {
		return e
	}
	switch like(g, u.estimate) {
	case 0:
		return api.ErrRoot
	case -1:
		a, g = a.Neg(), g.Neg()
	}
	u.a, u.g = a, g
	return api.OK
}

// finish is step 8.
func (u *unknowns[T]) finish() api.Errno {
	one := constant[T](1)
	b, e := u.n[0][0].Div(u.a.Mul(u.n[1][1]))
	if e != api.OK {
		return e
	}
	m, k := u.f.Mul(u.a), u.e.Mul(b)
	left := Terms[T]{u.d, m, u.a.Add(u.d.Mul(m))}
	right := Terms[T]{u.c, k, b.Add(k.Mul(u.c))}
	enter, e := right.Tracking.Div(u.raw.Thru[1][0].Mul(one.Sub(m.Mul(k))))
	if e != api.OK {
		return e
	}
	u.set = Set[T]{[]Terms[T]{left, right}, []T{one, enter}}
	return api.OK
}
