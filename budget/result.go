package budget

import (
	"slices"

	"waveport/api"
	"waveport/box"
	"waveport/num"
)

// solve returns a result of a budget, for which it computes the ones ahead of it, too. of makes values of constants, and input the values of terms with their indexes.
func solve[T quantity[T]](b Budget, result string, of func(c num.Num) T, input func(i int, t Term) T) (T, api.Errno) {
	var none T
	if e := Valid(b); e != api.OK {
		return none, e
	}
	at := slices.IndexFunc(b.Results, func(r Result) bool { return r.Name == result })
	if at < 0 {
		return none, api.ErrNone
	}
	values := map[string]T{}
	for i, t := range b.Terms {
		values[t.Name] = input(i, t)
	}
	for _, r := range b.Results[:at] {
		x, e := compute(r.Expr, of, values)
		if e != api.OK {
			return none, e
		}
		values[r.Name] = x
	}
	return compute(b.Results[at].Expr, of, values)
}

// Value returns the value of a result.
func Value(b Budget, result string) (num.Num, api.Errno) {
	return solve(b, result, itself, func(_ int, t Term) num.Num { return t.Value })
}

// Enclose returns the span of a result over all combinations of the terms.
func Enclose(b Budget, result string) (box.Span, api.Errno) {
	return solve(b, result, around, func(_ int, t Term) box.Span {
		s, _ := box.Around(t.Value.Sub(t.Half), t.Value.Add(t.Half))
		return s
	})
}

// sloped is a value with its slopes by the terms of a budget. Those that are missing at the end are 0.
type sloped struct {
	value  num.Num
	slopes []num.Num
}

// level returns a value that does not depend on any term.
func level(c num.Num) sloped {
	return sloped{value: c}
}

// mixed returns p a + q b, element by element.
func mixed(p num.Num, a []num.Num, q num.Num, b []num.Num) []num.Num {
	l := make([]num.Num, max(len(a), len(b)))
	for i, x := range a {
		l[i] = p.Mul(x)
	}
	for i, x := range b {
		l[i] = l[i].Add(q.Mul(x))
	}
	return l
}

// Add returns x + y.
func (x sloped) Add(y sloped) sloped {
	return sloped{x.value.Add(y.value), mixed(num.Int(1), x.slopes, num.Int(1), y.slopes)}
}

// Sub returns x - y.
func (x sloped) Sub(y sloped) sloped {
	return sloped{x.value.Sub(y.value), mixed(num.Int(1), x.slopes, num.Int(-1), y.slopes)}
}

// Mul returns x y.
func (x sloped) Mul(y sloped) sloped {
	return sloped{x.value.Mul(y.value), mixed(y.value, x.slopes, x.value, y.slopes)}
}

// Div returns x/y. The slopes of the quotient q are (those of x less q times those of y)/y.
func (x sloped) Div(y sloped) (sloped, api.Errno) {
	q, e := x.value.Div(y.value)
	if e != api.OK {
		return sloped{}, e
	}
	inverse, _ := num.Int(1).Div(y.value)
	return sloped{q, mixed(inverse, x.slopes, q.Mul(inverse).Neg(), y.slopes)}, api.OK
}

// slopes returns the value of a result with its slopes by all terms.
func slopes(b Budget, result string) (sloped, api.Errno) {
	x, e := solve(b, result, level, func(i int, t Term) sloped {
		unit := make([]num.Num, i+1)
		unit[i] = num.Int(1)
		return sloped{t.Value, unit}
	})
	if e != api.OK {
		return sloped{}, e
	}
	all := make([]num.Num, len(b.Terms))
	copy(all, x.slopes)
	return sloped{x.value, all}, api.OK
}
