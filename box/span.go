package box

import (
	"math"

	"waveport/api"
	"waveport/num"
)

// Sure is the answer of a comparison of sets.
type Sure int

// The answers.
const (
	Unsure Sure = iota
	Yes
	No
)

// Span is a closed span of real numbers. The zero value is the number 0. A Span never changes.
//
// lo is finite or -Inf, hi is finite or +Inf, lo is not above hi, and a zero is +0.
type Span struct{ lo, hi float64 }

// MakeSpan returns the span from lo to hi.
func MakeSpan(lo, hi float64) (Span, api.Errno) {
	if !mayEnd(lo, hi) {
		return Span{}, api.ErrArg
	}
	if lo > hi {
		return Span{}, api.ErrOrder
	}
	return Span{plain(lo), plain(hi)}, api.OK
}

// mayEnd reports whether lo can be a lower end and hi an upper one.
func mayEnd(lo, hi float64) bool {
	return !math.IsNaN(lo) && !math.IsNaN(hi) && !math.IsInf(lo, 1) && !math.IsInf(hi, -1)
}

// plain returns x, and +0 for -0.
func plain(x float64) float64 {
	if x == 0 {
		return 0
	}
	return x
}

// Around returns the tightest span with the real numbers x and y, and all between.
func Around(x, y num.Num) (Span, api.Errno) {
	if !x.Real() || !y.Real() {
		return Span{}, api.ErrArg
	}
	return hull(around(x), around(y)), api.OK
}

// around returns the tightest span around the real part of x.
func around(x num.Num) Span {
	return Span{x.Below(), x.Above()}
}

// hull returns the tightest span around all candidates.
func hull(candidates ...Span) Span {
	s := candidates[0]
	for _, c := range candidates[1:] {
		s = Span{min(s.lo, c.lo), max(s.hi, c.hi)}
	}
	return s
}

// meet returns the span of the numbers in both, and whether there are any.
func (s Span) meet(t Span) (Span, bool) {
	lo, hi := max(s.lo, t.lo), min(s.hi, t.hi)
	if lo > hi {
		return Span{}, false
	}
	return Span{lo, hi}, true
}

// Ends returns the ends of s.
func (s Span) Ends() (float64, float64) {
	return s.lo, s.hi
}

// Has reports whether x is a real number within s.
func (s Span) Has(x num.Num) bool {
	// An end is a float64, so it lies beyond x exactly if it lies beyond the tightest span around x.
	return x.Real() && around(x).In(s)
}

// hasZero reports whether 0 lies within s.
func (s Span) hasZero() bool {
	return s.lo <= 0 && 0 <= s.hi
}

// In reports whether s lies within t.
func (s Span) In(t Span) bool {
	return t.lo <= s.lo && s.hi <= t.hi
}

// exact returns the reach of s.
func (s Span) exact() reach {
	return reach{times(s.lo, 1), times(s.hi, 1)}
}

// reach returns the reach of an operation that is monotone in each operand.
func (s Span) reach(t Span, operation func(x, y float64) wide) reach {
	return spread(operation(s.lo, t.lo), operation(s.lo, t.hi), operation(s.hi, t.lo), operation(s.hi, t.hi))
}

// squares returns the reach of all squares.
func (s Span) squares() reach {
	least, greatest := s.sizes()
	return reach{times(least, least), times(greatest, greatest)}
}

// sizes returns the least and the greatest absolute value in s.
func (s Span) sizes() (float64, float64) {
	a, b := math.Abs(s.lo), math.Abs(s.hi)
	if s.hasZero() {
		return 0, max(a, b)
	}
	return min(a, b), max(a, b)
}

func (s Span) neg() Span {
	return Span{0 - s.hi, 0 - s.lo}
}

// Add returns the tightest span around all x + y.
func (s Span) Add(t Span) Span {
	return s.exact().add(t.exact()).span()
}

// Sub returns the tightest span around all x - y.
func (s Span) Sub(t Span) Span {
	return s.Add(t.neg())
}

// Mul returns the tightest span around all x y.
func (s Span) Mul(t Span) Span {
	return s.reach(t, times).span()
}

// Div returns the tightest span around all x/y.
func (s Span) Div(t Span) (Span, api.Errno) {
	if t.hasZero() {
		return Span{}, api.ErrZero
	}
	return s.reach(t, over).span(), api.OK
}

// Square returns the tightest span around all squares.
func (s Span) Square() Span {
	return s.squares().span()
}

// Sqrt returns the tightest span around all square roots.
func (s Span) Sqrt() (Span, api.Errno) {
	if s.lo < 0 {
		return Span{}, api.ErrArg
	}
	return Span{realRoot(s.lo, 0).lo, realRoot(s.hi, 0).hi}, api.OK
}

// Below tells whether each number of s is less than each one of t.
func (s Span) Below(t Span) Sure {
	switch {
	case s.hi < t.lo:
		return Yes
	case t.hi <= s.lo:
		return No
	}
	return Unsure
}
