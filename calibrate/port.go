package calibrate

import (
	"slices"

	"waveport/api"
	"waveport/num"
)

// minLiar is the least number of standards among which a wrong one can be told.
const minLiar = 5

// Raw1 returns the raw reflection of a one-port with a reflection coefficient.
func Raw1[T num.Field[T]](t Terms[T], reflection T) (T, api.Errno) {
	var none T
	n := constant[T](1).Sub(t.Match.Mul(reflection))
	x, e := t.Tracking.Mul(reflection).Div(n)
	if e != api.OK {
		return none, api.ErrZero
	}
	return t.Directivity.Add(x), api.OK
}

// Correct1 returns the reflection coefficient for a raw reflection.
func Correct1[T num.Field[T]](t Terms[T], raw T) (T, api.Errno) {
	var none T
	x := raw.Sub(t.Directivity)
	g, e := x.Div(t.Tracking.Add(t.Match.Mul(x)))
	if e != api.OK {
		return none, api.ErrZero
	}
	return g, api.OK
}

// Solve1 returns the terms of a port from three standards and their raw reflections.
func Solve1[T num.Field[T]](ideal, raw [3]T) (Terms[T], api.Errno) {
	m := make([][]T, len(ideal))
	for k, g := range ideal {
		m[k] = []T{constant[T](1), raw[k].Mul(g), g}
	}
	x, e := num.Solve(m, raw[:])
	if e != api.OK {
		return Terms[T]{}, api.ErrSingular
	}
	t := Terms[T]{x[0], x[1], x[2].Add(x[0].Mul(x[1]))}
	if !t.Tracking.Clear() {
		return Terms[T]{}, api.ErrSingular
	}
	return t, api.OK
}

// Residuals returns the differences between corrected and ideal reflections of standards.
func Residuals(t Terms[num.Num], ideal, raw []num.Num) ([]num.Num, api.Errno) {
	if len(ideal) > api.MaxStandards || len(raw) != len(ideal) {
		return nil, api.ErrSize
	}
	out := make([]num.Num, len(ideal))
	for i, g := range ideal {
		corrected, e := Correct1(t, raw[i])
		if e != api.OK {
			return nil, e
		}
		out[i] = corrected.Sub(g)
	}
	return out, api.OK
}

// Liar returns the index of the only standard without which all others agree, or -1 if all agree.
func Liar(ideal, raw []num.Num) (int, api.Errno) {
	if !within(len(ideal), minLiar, api.MaxStandards) || len(raw) != len(ideal) {
		return 0, api.ErrSize
	}
	for i, g := range ideal {
		if slices.ContainsFunc(ideal[:i], g.Same) {
			return 0, api.ErrTwice
		}
	}
	if agree(ideal, raw) {
		return -1, api.OK
	}
	// There is no second one: two of them would leave three others or more, which agree on one set of terms only, and so all would agree.
	for i := range ideal {
		if agree(without(ideal, i), without(raw, i)) {
			return i, api.OK
		}
	}
	return 0, api.ErrNone
}

// without returns l without the element with an index.
func without(l []num.Num, i int) []num.Num {
	return slices.Concat(l[:i], l[i+1:])
}

// agree reports whether standards agree, of which there are three or more and no two with the same ideal reflection. Terms for three of them are the only ones.
func agree(ideal, raw []num.Num) bool {
	t, e := Solve1([3]num.Num(ideal[:3]), [3]num.Num(raw[:3]))
	if e != api.OK {
		return false
	}
	for i, g := range ideal {
		if m, e := Raw1(t, g); e != api.OK || !m.Same(raw[i]) {
			return false
		}
	}
	return true
}
