package record

import (
	"slices"

	"waveport/api"
	"waveport/num"
)

// sweepPoint is a point of a sweep.
type sweepPoint struct {
	freq num.Num
	a, b [][]num.Num
}

// points returns the points of a valid sweep.
func points(w Waves) []sweepPoint {
	l := make([]sweepPoint, len(w.Freqs))
	for k, f := range w.Freqs {
		l[k] = sweepPoint{f, w.A[k], w.B[k]}
	}
	return l
}

// sweep returns the sweep with copies of points.
func sweep(l []sweepPoint) Waves {
	var w Waves
	for _, p := range l {
		w.Freqs = append(w.Freqs, p.freq)
		w.A = append(w.A, num.Lift[num.Num](p.a))
		w.B = append(w.B, num.Lift[num.Num](p.b))
	}
	return w
}

// Merge returns the sweep with the points of both.
func Merge(v, w Waves) (Waves, api.Errno) {
	if !ValidWaves(v) || !ValidWaves(w) {
		return Waves{}, api.ErrArg
	}
	if len(v.A[0]) != len(w.A[0]) {
		return Waves{}, api.ErrSize
	}
	l := slices.Concat(points(v), points(w))
	slices.SortFunc(l, func(p, q sweepPoint) int { return p.freq.Cmp(q.freq) })
	for i, p := range l[1:] {
		if p.freq.Same(l[i].freq) {
			return Waves{}, api.ErrTwice
		}
	}
	if len(l) > api.MaxPoints {
		return Waves{}, api.ErrFull
	}
	return sweep(l), api.OK
}

// Cut returns the sweep with the points from lo to hi.
func Cut(w Waves, lo, hi num.Num) (Waves, api.Errno) {
	if !ValidWaves(w) || !lo.Real() || !hi.Real() {
		return Waves{}, api.ErrArg
	}
	var l []sweepPoint
	for _, p := range points(w) {
		if p.freq.Cmp(lo) >= 0 && p.freq.Cmp(hi) <= 0 {
			l = append(l, p)
		}
	}
	if len(l) == 0 {
		return Waves{}, api.ErrNone
	}
	return sweep(l), api.OK
}
