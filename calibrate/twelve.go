package calibrate

import (
	"cmp"

	"waveport/api"
	"waveport/num"
)

// exchanged returns m with the indexes 0 and 1 exchanged.
func exchanged[T any](m [2][2]T) [2][2]T {
	return [2][2]T{{m[1][1], m[1][0]}, {m[0][1], m[0][0]}}
}

// Twelve returns the error terms of both directions from the terms of both ports, the raw matrix of the thru, and the raw leakages.
func Twelve[T num.Field[T]](ports [2]Terms[T], thru [2][2]T, leakage [2]T) ([2]Six[T], api.Errno) {
	forth, e := six(ports[0], thru, leakage[0])
	if e != api.OK {
		return [2]Six[T]{}, e
	}
	back, e := six(ports[1], exchanged(thru), leakage[1])
	if e != api.OK {
		return [2]Six[T]{}, e
	}
	return [2]Six[T]{forth, back}, api.OK
}

// six returns the error terms of the direction in which port 0 sends.
func six[T num.Field[T]](one Terms[T], thru [2][2]T, leakage T) (Six[T], api.Errno) {
	match, e := Correct1(one, thru[0][0])
	if e != api.OK {
		return Six[T]{}, e
	}
	transfer := thru[1][0].Sub(leakage).Mul(constant[T](1).Sub(one.Match.Mul(match)))
	return Six[T]{one, leakage, match, transfer}, api.OK
}

// RawTwelve returns the raw matrix of a two-port.
func RawTwelve[T num.Field[T]](x [2]Six[T], s [2][2]T) ([2][2]T, api.Errno) {
	reflected, passed, e := rawSix(x[0], s)
	if e != api.OK {
		return [2][2]T{}, e
	}
	returned, received, e := rawSix(x[1], exchanged(s))
	if e != api.OK {
		return [2][2]T{}, e
	}
	return [2][2]T{{reflected, received}, {passed, returned}}, api.OK
}

// rawSix returns the raw reflection and the raw transmission in the direction in which port 0 sends.
func rawSix[T num.Field[T]](x Six[T], s [2][2]T) (reflected, passed T, e api.Errno) {
	var none T
	d := minor(s[0][0], s[0][1], s[1][0], s[1][1])
	match := x.One.Match
	n := constant[T](1).Sub(match.Mul(s[0][0])).Sub(x.LoadMatch.Mul(s[1][1])).Add(match.Mul(x.LoadMatch).Mul(d))
	r, e := x.One.Tracking.Mul(s[0][0].Sub(x.LoadMatch.Mul(d))).Div(n)
	if e != api.OK {
		return none, none, api.ErrZero
	}
	t, _ := x.Transfer.Mul(s[1][0]).Div(n)
	return x.One.Directivity.Add(r), x.Leakage.Add(t), api.OK
}

// CorrectTwelve returns the scattering matrix of a two-port.
func CorrectTwelve[T num.Field[T]](x [2]Six[T], raw [2][2]T) ([2][2]T, api.Errno) {
	p, q, e := plain(x[0], raw)
	u, v, f := plain(x[1], exchanged(raw))
	if e != api.OK || f != api.OK {
		return [2][2]T{}, api.ErrZero
	}
	one := constant[T](1)
	s, l, t, k := x[0].One.Match, x[0].LoadMatch, x[1].One.Match, x[1].LoadMatch
	g, h, w := one.Add(p.Mul(s)), one.Add(u.Mul(t)), q.Mul(v)
	n := g.Mul(h).Sub(w.Mul(l.Mul(k)))
	if !n.Clear() {
		return [2][2]T{}, api.ErrZero
	}
	over := func(x T) T {
		y, _ := x.Div(n)
		return y
	}
	return [2][2]T{
		{over(p.Mul(h).Sub(l.Mul(w))), over(v.Mul(one.Add(p.Mul(s.Sub(k)))))},
		{over(q.Mul(one.Add(u.Mul(t.Sub(l))))), over(u.Mul(g).Sub(k.Mul(w)))},
	}, api.OK
}

// plain returns the raw reflection and the raw transmission in the direction in which port 0 sends, without directivity, leakage and their factors.
func plain[T num.Field[T]](x Six[T], raw [2][2]T) (reflected, passed T, e api.Errno) {
	reflected, e = raw[0][0].Sub(x.One.Directivity).Div(x.One.Tracking)
	passed, f := raw[1][0].Sub(x.Leakage).Div(x.Transfer)
	return reflected, passed, cmp.Or(e, f)
}
