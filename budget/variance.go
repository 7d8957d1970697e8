package budget

import (
	"waveport/api"
	"waveport/box"
	"waveport/num"
)

// divisors are those of the square of half the width in the variance, by shapes.
var divisors = [...]int64{1, 3, 6, 2}

// Variance returns the variance of a term.
func Variance(t Term) (num.Num, api.Errno) {
	if e := checkTerm(t); e != api.OK {
		return num.Num{}, e
	}
	width := t.Half
	if t.Shape == Normal {
		width, _ = width.Div(t.Factor)
	}
	v, _ := width.Mul(width).Div(num.Int(divisors[t.Shape]))
	return v, api.OK
}

// shares returns the slopes of a quantity by the terms of a budget, and their variances in it.
func shares(b Budget, x sloped) []Share {
	l := make([]Share, len(b.Terms))
	for i, t := range b.Terms {
		s := x.slopes[i]
		v, _ := Variance(t)
		l[i] = Share{t.Name, s, v.Mul(s).Mul(s)}
	}
	return l
}

// combined returns the variance of a quantity.
func combined(b Budget, x sloped) num.Num {
	var sum num.Num
	slope := map[string]num.Num{}
	for _, s := range shares(b, x) {
		sum = sum.Add(s.Variance)
		slope[s.Term] = s.Slope
	}
	for _, l := range b.Links {
		sum = sum.Add(num.Int(2).Mul(l.Covariance).Mul(slope[l.A]).Mul(slope[l.B]))
	}
	return sum
}

// Shares returns the slopes and variances of a result, term by term.
func Shares(b Budget, result string) ([]Share, api.Errno) {
	x, e := slopes(b, result)
	if e != api.OK {
		return nil, e
	}
	return shares(b, x), api.OK
}

// Combined returns the variance of a result.
func Combined(b Budget, result string) (num.Num, api.Errno) {
	x, e := slopes(b, result)
	if e != api.OK {
		return num.Num{}, e
	}
	return combined(b, x), api.OK
}

// Expanded returns the span around a result with a coverage factor.
func Expanded(b Budget, result string, factor num.Num) (box.Span, api.Errno) {
	x, e := slopes(b, result)
	if e != api.OK {
		return box.Span{}, e
	}
	if !notNegative(factor) {
		return box.Span{}, api.ErrArg
	}
	// The covariances are positive semidefinite, so there is a root.
	s, _ := around(combined(b, x)).Sqrt()
	h, v := around(factor).Mul(s), around(x.value)
	lo, _ := v.Sub(h).Ends()
	_, hi := v.Add(h).Ends()
	return box.MakeSpan(lo, hi)
}
