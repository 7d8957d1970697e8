package calibrate

import (
	"slices"
	"strings"

	"waveport/api"
	"waveport/num"
)

// nameBytes are the bytes that a name may have.
const nameBytes = "ABCDEFGHIJKLMNOPQRSTUVWXYZabcdefghijklmnopqrstuvwxyz0123456789-_."

func isName(s string) bool {
	return s != "" && len(s) <= api.MaxName && strings.Trim(s, nameBytes) == ""
}

// within reports whether n is from lo to hi.
func within(n, lo, hi int) bool {
	return lo <= n && n <= hi
}

// checkStandard returns the error of a standard.
func checkStandard(s Standard) api.Errno {
	switch {
	case !isName(s.Name) || !within(s.Kind, Short, Known) || !isName(s.Connector):
		return api.ErrArg
	case !validModel(s):
		return api.ErrArg
	case !within(s.Most, 1, api.MaxMate) || !within(s.Uses, 0, s.Most):
		return api.ErrArg
	case (len(s.Points) > 0) != (s.Kind == Known):
		return api.ErrArg
	case len(s.Points) > api.MaxPoints:
		return api.ErrSize
	}
	return checkPoints(s.Points)
}

// validModel reports whether the numbers of the model of a standard are valid, but for its points.
func validModel(s Standard) bool {
	zero, one := num.Int(0), num.Int(1)
	switch {
	case !s.Resistance.Real() || !s.Fringe.Real() || !s.Delay.Real() || !s.Loss.Real():
		return false
	case s.Resistance.Cmp(zero) < 0 || s.Resistance.Clear() && s.Kind != Load:
		return false
	case s.Fringe.Clear() && s.Kind == Known:
		return false
	case !within(s.Sections, 0, api.MaxSections) || s.Delay.Clear() && s.Sections == 0:
		return false
	}
	return s.Loss.Cmp(zero) > 0 && s.Loss.Cmp(one) <= 0
}

// checkPoints returns the error of the points of a standard.
func checkPoints(points []Point) api.Errno {
	for i, p := range points {
		switch {
		case !p.Frequency.Real():
			return api.ErrArg
		case i > 0 && p.Frequency.Cmp(points[i-1].Frequency) <= 0:
			return api.ErrOrder
		}
	}
	return api.OK
}

// Reflection returns the reflection coefficient of a standard at a frequency.
func Reflection(s Standard, f num.Num) (num.Num, api.Errno) {
	if e := checkStandard(s); e != api.OK {
		return num.Num{}, e
	}
	return reflectionOf(s, f)
}

// reflectionOf is Reflection for a standard without an error.
func reflectionOf(s Standard, f num.Num) (num.Num, api.Errno) {
	if !f.Real() {
		return num.Num{}, api.ErrArg
	}
	end, e := endOf(s, f)
	if e != api.OK {
		return num.Num{}, e
	}
	return end.Mul(s.Loss).Mul(delayed(s, f)), api.OK
}

// endOf returns the reflection of a standard without its sections and its loss.
func endOf(s Standard, f num.Num) (num.Num, api.Errno) {
	if s.Kind == Known {
		return interpolated(s.Points, f)
	}
	// A Short is a Load without a resistance, and the capacitance of an Open is the inductance of a Short with the opposite reflection.
	z, one := s.Resistance.Add(imaginary().Mul(f).Mul(s.Fringe)), num.Int(1)
	end, _ := z.Sub(one).Div(z.Add(one)) // z is not -1, for a resistance is not below 0
	if s.Kind == Open {
		end = end.Neg()
	}
	return end, api.OK
}

// interpolated returns the reflection at a frequency, between points.
func interpolated(points []Point, f num.Num) (num.Num, api.Errno) {
	i, found := slices.BinarySearchFunc(points, f, func(p Point, f num.Num) int { return p.Frequency.Cmp(f) })
	switch {
	case found:
		return points[i].Reflection, api.OK
	case i == 0 || i == len(points):
		return num.Num{}, api.ErrBand
	}
	p, q := points[i-1], points[i]
	share, _ := f.Sub(p.Frequency).Div(q.Frequency.Sub(p.Frequency))
	return p.Reflection.Add(q.Reflection.Sub(p.Reflection).Mul(share)), api.OK
}

// delayed returns what becomes of a wave of 1 that passes all sections there and back.
func delayed(s Standard, f num.Num) num.Num {
	x := num.Int(1).Add(imaginary().Mul(f).Mul(s.Delay))
	section, _ := x.Conj().Div(x) // the real part of x is 1
	return power(section, 2*s.Sections)
}

// power returns x^n, for an n from 0 on.
func power(x num.Num, n int) num.Num {
	if n == 0 {
		return num.Int(1)
	}
	half := power(x, n/2)
	if n%2 == 1 {
		x = x.Mul(half)
	} else {
		x = half
	}
	return half.Mul(x)
}

// Verify compares corrected values of a check standard with its ideal ones.
func Verify(s Standard, frequencies, corrected []num.Num, limit num.Num) ([]Check, api.Errno) {
	if e := checkStandard(s); e != api.OK {
		return nil, e
	}
	if len(frequencies) > api.MaxPoints || len(corrected) != len(frequencies) {
		return nil, api.ErrSize
	}
	if !limit.Real() || limit.Cmp(num.Int(0)) < 0 {
		return nil, api.ErrArg
	}
	checks := make([]Check, len(frequencies))
	for i, f := range frequencies {
		ideal, e := reflectionOf(s, f)
		if e != api.OK {
			return nil, e
		}
		off := corrected[i].Sub(ideal)
		checks[i] = Check{f, off, off.Norm().Cmp(limit.Mul(limit)) <= 0}
	}
	return checks, api.OK
}
