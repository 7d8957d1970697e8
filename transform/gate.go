package transform

import (
	"waveport/api"
	"waveport/num"
)

// checkGate returns the error of a gate of a list with n elements.
func checkGate(g api.Gate, n int) api.Errno {
	if !isLength(n) {
		return api.ErrSize
	}
	if g.From < 0 || g.From >= n || g.Count < 0 || g.Count > n {
		return api.ErrArg
	}
	return api.OK
}

// away returns how many positions the position k of n is away from a gate: 0 if it is in the gate, and a number above 0 if the gate is empty.
func away(g api.Gate, n, k int) int {
	behind := (k - g.From + n) % n
	if behind < g.Count {
		return 0
	}
	return min(behind-g.Count+1, n-behind)
}

// Cut returns x with 0 in the place of each element outside of a gate.
func Cut[T num.Field[T]](x []T, g api.Gate) ([]T, api.Errno) {
	if e := checkGate(g, len(x)); e != api.OK {
		return nil, e
	}
	zero := of[T](num.Num{})
	out := make([]T, len(x))
	for k, a := range x {
		out[k] = zero
		if away(g, len(x), k) == 0 {
			out[k] = a
		}
	}
	return out, api.OK
}

// Rest returns the gate of all positions outside of a gate.
func Rest(g api.Gate, n int) (api.Gate, api.Errno) {
	if e := checkGate(g, n); e != api.OK {
		return api.Gate{}, e
	}
	return api.Gate{From: (g.From + g.Count) % n, Count: n - g.Count}, api.OK
}

// Gated returns the spectrum x after its inverse transform was cut by a gate.
func Gated[T num.Field[T]](x, w []T, g api.Gate) ([]T, api.Errno) {
	response, e := FastBack(x, w)
	if e != api.OK {
		return nil, e
	}
	inside, e := Cut(response, g)
	if e != api.OK {
		return nil, e
	}
	return Fast(inside, w)
}

// Touched returns the positions near a gate, but outside of it, at which x is not 0.
func Touched[T num.Field[T]](x []T, g api.Gate, guard int) ([]int, api.Errno) {
	if e := checkGate(g, len(x)); e != api.OK {
		return nil, e
	}
	if g.Count == 0 {
		return nil, api.OK
	}
	zero := of[T](num.Num{})
	var at []int
	for k, a := range x {
		d := away(g, len(x), k)
		if 0 < d && d <= guard && !a.Same(zero) {
			at = append(at, k)
		}
	}
	return at, api.OK
}
