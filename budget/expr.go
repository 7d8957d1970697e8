package budget

import (
	"waveport/api"
	"waveport/box"
	"waveport/num"
)

// every reports whether all nodes of an expression are as they should be. It ends at the first one that is not.
func every(x Expr, fine func(x Expr) bool) bool {
	if !fine(x) {
		return false
	}
	for _, a := range x.Args {
		if !every(a, fine) {
			return false
		}
	}
	return true
}

// checkExpr returns the error of an expression. Its nodes are counted first, since a list of Args may contain itself.
func checkExpr(x Expr) api.Errno {
	n := 0
	few := func(Expr) bool {
		n++
		return n <= api.MaxNodes
	}
	switch {
	case !every(x, few):
		return api.ErrSize
	case !every(x, fineNode):
		return api.ErrArg
	}
	return api.OK
}

// fineNode reports whether a node of an expression has what its kind has.
func fineNode(x Expr) bool {
	args := 2
	switch x.Kind {
	case Constant:
		return notNegative(x.Value) && x.Value.Same(x.Value.Floor(0)) && x.Name == "" && len(x.Args) == 0
	case Name:
		return isName(x.Name) && !x.Value.Clear() && len(x.Args) == 0
	case Negative:
		args = 1
	case Sum, Difference, Product, Quotient:
	default:
		return false
	}
	return !x.Value.Clear() && x.Name == "" && len(x.Args) == args
}

// walk goes through an expression: join makes something of each node and of what it has made of the node's arguments. The first error ends it.
func walk[T any](x Expr, join func(x Expr, args []T) (T, api.Errno)) (T, api.Errno) {
	args := make([]T, len(x.Args))
	for i, a := range x.Args {
		y, e := walk(a, join)
		if e != api.OK {
			return y, e
		}
		args[i] = y
	}
	return join(x, args)
}

// quantity is the constraint of what expressions are computed with. The zero value of a T is 0.
type quantity[T any] interface {
	Add(y T) T
	Sub(y T) T
	Mul(y T) T
	Div(y T) (T, api.Errno)
}

// compute returns what an expression is if names have these values, and of makes values of constants.
func compute[T quantity[T]](x Expr, of func(c num.Num) T, values map[string]T) (T, api.Errno) {
	return walk(x, func(x Expr, args []T) (T, api.Errno) {
		var zero T
		switch x.Kind {
		case Constant:
			return of(x.Value), api.OK
		case Name:
			v, ok := values[x.Name]
			if !ok {
				return zero, api.ErrNone
			}
			return v, api.OK
		case Negative:
			return zero.Sub(args[0]), api.OK
		case Sum:
			return args[0].Add(args[1]), api.OK
		case Difference:
			return args[0].Sub(args[1]), api.OK
		case Product:
			return args[0].Mul(args[1]), api.OK
		}
		return args[0].Div(args[1])
	})
}

// itself returns c.
func itself(c num.Num) num.Num {
	return c
}

// around returns the tightest span around a real number.
func around(c num.Num) box.Span {
	s, _ := box.Around(c, c)
	return s
}

// named returns the values of names; the first one counts.
func named[T any](names []string, values []T) map[string]T {
	m := map[string]T{}
	for i, name := range names {
		if _, ok := m[name]; !ok {
			m[name] = values[i]
		}
	}
	return m
}

// Evaluate returns the value of an expression, where names have values.
func Evaluate(x Expr, names []string, values []num.Num) (num.Num, api.Errno) {
	if len(names) != len(values) {
		return num.Num{}, api.ErrSize
	}
	for _, v := range values {
		if !v.Real() {
			return num.Num{}, api.ErrArg
		}
	}
	if e := checkExpr(x); e != api.OK {
		return num.Num{}, e
	}
	return compute(x, itself, named(names, values))
}

// Over returns the span of an expression, where names have spans.
func Over(x Expr, names []string, spans []box.Span) (box.Span, api.Errno) {
	if len(names) != len(spans) {
		return box.Span{}, api.ErrSize
	}
	if e := checkExpr(x); e != api.OK {
		return box.Span{}, e
	}
	return compute(x, around, named(names, spans))
}

// Derive returns the derivative of an expression by a name.
func Derive(x Expr, name string) (Expr, api.Errno) {
	if e := checkExpr(x); e != api.OK {
		return Expr{}, e
	}
	return walk(x, func(x Expr, slopes []Expr) (Expr, api.Errno) {
		return derivative(x, slopes, name), api.OK
	})
}

// derivative returns the derivative of an expression whose arguments have the derivatives slopes.
func derivative(x Expr, slopes []Expr, name string) Expr {
	switch x.Kind {
	case Constant:
		return constant(0)
	case Name:
		if x.Name == name {
			return constant(1)
		}
		return constant(0)
	case Negative, Sum, Difference:
		return node(x.Kind, slopes...)
	}
	a, b := x.Args[0], x.Args[1]
	first := node(Product, slopes[0], fresh(b))
	second := node(Product, fresh(a), slopes[1])
	if x.Kind == Product {
		return node(Sum, first, second)
	}
	return node(Quotient, node(Difference, first, second), node(Product, fresh(b), fresh(b)))
}

// constant returns the expression of a whole number.
func constant(n int64) Expr {
	return Expr{Kind: Constant, Value: num.Int(n)}
}

// node returns the expression of a kind with these arguments.
func node(kind int, args ...Expr) Expr {
	return Expr{Kind: kind, Args: args}
}

// fresh returns an equal expression in memory of its own.
func fresh(x Expr) Expr {
	y, _ := walk(x, func(x Expr, args []Expr) (Expr, api.Errno) {
		x.Args = args
		return x, api.OK
	})
	return y
}
