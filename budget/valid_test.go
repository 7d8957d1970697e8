package budget_test

import (
	"math"
	"slices"
	"strconv"
	"strings"
	"testing"

	"waveport/api"
	"waveport/box"
	"waveport/budget"
	"waveport/num"
)

// whole returns a budget with a result r that is 1, in which nothing is wrong.
func whole(t testing.TB) budget.Budget {
	return read(t, "term a 1 1 rectangle\nterm b 1 1 normal 1\nterm c 0 0 arcsine\nlink a b 1/10\nresult r = 1\n")
}

// hasError tests that all functions of budgets return an error, whatever the name of the result.
func hasError(t testing.TB, what string, b budget.Budget, want api.Errno) {
	t.Helper()
	if e := budget.Valid(b); e != want {
		t.Errorf("Valid, %s: %d, want %d", what, e, want)
	}
	s, e := budget.Print(b)
	code(t, "Print, "+what, s == "", e, want)
	if want != api.OK {
		resultFails(t, what, b, "r", want)
	} else {
		x, e := budget.Value(b, "r")
		is(t, "Value, "+what, x, e, "1")
		want = api.ErrNone
	}
	resultFails(t, what, b, "nothing", want)
	resultFails(t, what, b, "", want)
}

// resultFails tests that all functions of results return an error of Value.
func resultFails(t testing.TB, what string, b budget.Budget, name string, want api.Errno) {
	t.Helper()
	what += ", result " + name
	x, e := budget.Value(b, name)
	code(t, "Value, "+what, !x.Clear(), e, want)
	s, e := budget.Enclose(b, name)
	code(t, "Enclose, "+what, noSpan(s), e, want)
	l, e := budget.Shares(b, name)
	code(t, "Shares, "+what, len(l) == 0, e, want)
	x, e = budget.Combined(b, name)
	code(t, "Combined, "+what, !x.Clear(), e, want)
	for _, factor := range []string{"1", "-1", "1i"} {
		s, e = budget.Expanded(b, name, parse(t, factor))
		code(t, "Expanded, "+what, noSpan(s), e, want)
	}
}

func TestTermErrors(t *testing.T) {
	one, i := num.Int(1), parse(t, "1i")
	fine := budget.Term{Name: "x", Value: one, Half: one, Shape: budget.Normal, Factor: one}
	for k, c := range []struct {
		change func(x *budget.Term)
		want   api.Errno
	}{
		{func(x *budget.Term) {}, api.OK},
		{func(x *budget.Term) { x.Name = "" }, api.ErrArg},
		{func(x *budget.Term) { x.Name = strings.Repeat("x", 24) }, api.OK},
		{func(x *budget.Term) { x.Name = strings.Repeat("x", 25) }, api.ErrArg},
		{func(x *budget.Term) { x.Name = "x\x00" }, api.ErrArg},
		{func(x *budget.Term) { x.Name = "Z_9" }, api.OK},
		{func(x *budget.Term) { x.Name = "9" }, api.ErrArg},
		{func(x *budget.Term) { x.Name = "_x" }, api.ErrArg},
		{func(x *budget.Term) { x.Name = "é" }, api.ErrArg},
		{func(x *budget.Term) { x.Name = "x y" }, api.ErrArg},
		{func(x *budget.Term) { x.Name = "x-y" }, api.ErrArg},
		{func(x *budget.Term) { x.Name = "x[" }, api.ErrArg},
		{func(x *budget.Term) { x.Name = "x@" }, api.ErrArg},
		{func(x *budget.Term) { x.Name = "x`" }, api.ErrArg},
		{func(x *budget.Term) { x.Name = "x{" }, api.ErrArg},
		{func(x *budget.Term) { x.Name = "x/" }, api.ErrArg},
		{func(x *budget.Term) { x.Name = "x:" }, api.ErrArg},
		{func(x *budget.Term) { x.Name = "zZaA09" }, api.OK},
		{func(x *budget.Term) { x.Value = i }, api.ErrArg},
		{func(x *budget.Term) { x.Value = one.Neg() }, api.OK},
		{func(x *budget.Term) { x.Half = i }, api.ErrArg},
		{func(x *budget.Term) { x.Half = one.Add(i) }, api.ErrArg},
		{func(x *budget.Term) { x.Half = fraction(-1, 1000) }, api.ErrArg},
		{func(x *budget.Term) { x.Half = num.Num{} }, api.OK},
		{func(x *budget.Term) { x.Factor = num.Num{} }, api.ErrArg},
		{func(x *budget.Term) { x.Factor = fraction(-1, 9) }, api.ErrArg},
		{func(x *budget.Term) { x.Factor = one.Add(i) }, api.ErrArg},
		{func(x *budget.Term) { x.Factor = fraction(1, 9) }, api.OK},
		{func(x *budget.Term) { x.Shape = budget.Rectangle }, api.ErrArg},
		{func(x *budget.Term) { x.Shape, x.Factor = budget.Rectangle, num.Num{} }, api.OK},
		{func(x *budget.Term) { x.Shape, x.Factor = budget.Triangle, num.Num{} }, api.OK},
		{func(x *budget.Term) { x.Shape, x.Factor = budget.Triangle, i }, api.ErrArg},
		{func(x *budget.Term) { x.Shape, x.Factor = budget.Arcsine, num.Num{} }, api.OK},
		{func(x *budget.Term) { x.Shape, x.Factor = budget.Arcsine, one.Neg() }, api.ErrArg},
		{func(x *budget.Term) { x.Shape, x.Factor = 4, num.Num{} }, api.ErrArg},
		{func(x *budget.Term) { x.Shape, x.Factor = -1, num.Num{} }, api.ErrArg},
		{func(x *budget.Term) { x.Shape = math.MaxInt }, api.ErrArg},
		{func(x *budget.Term) { x.Shape = math.MinInt }, api.ErrArg},
	} {
		x := fine
		c.change(&x)
		v, e := budget.Variance(x)
		code(t, "Variance, case "+strconv.Itoa(k), !v.Clear(), e, c.want)
		b := whole(t)
		b.Terms = append(b.Terms, x)
		hasError(t, "case "+strconv.Itoa(k)+" of a term", b, c.want)
	}
}

func TestVariance(t *testing.T) {
	for _, c := range []struct {
		shape              int
		half, factor, want string
	}{
		{budget.Normal, "3", "2", "9/4"}, {budget.Normal, "1/3", "1/2", "4/9"}, {budget.Normal, "0", "5", "0"},
		{budget.Rectangle, "3", "0", "3"}, {budget.Rectangle, "1/2", "0", "1/12"}, {budget.Triangle, "3", "0", "3/2"}, {budget.Arcsine, "3", "0", "9/2"}, {budget.Arcsine, "0", "0", "0"},
	} {
		v, e := budget.Variance(budget.Term{Name: "x", Value: num.Int(7), Half: parse(t, c.half), Shape: c.shape, Factor: parse(t, c.factor)})
		is(t, "Variance", v, e, c.want)
	}
}

// TestBudgetErrors has budgets with one error or several.
func TestBudgetErrors(t *testing.T) {
	link := func(a, b, c string) budget.Link { return budget.Link{A: a, B: b, Covariance: parse(t, c)} }
	result := func(name, text string) budget.Result { return budget.Result{Name: name, Expr: tree(t, text)} }
	broken := budget.Result{Name: "z", Expr: expr{Kind: 7}}
	terms := func(n int) []budget.Term {
		var l []budget.Term
		for i := range n {
			l = append(l, budget.Term{Name: "t" + strconv.Itoa(i), Half: num.Int(1), Shape: budget.Rectangle})
		}
		return l
	}
	results := func(n int) []budget.Result {
		l := []budget.Result{result("r", "1")}
		for i := 1; i < n; i++ {
			l = append(l, result("r"+strconv.Itoa(i), "r"))
		}
		return l
	}
	long := result("z", "1"+strings.Repeat("+1", 200))
	for k, c := range []struct {
		change func(b *budget.Budget)
		want   api.Errno
	}{
		{func(b *budget.Budget) {}, api.OK},
		{func(b *budget.Budget) { b.Terms, b.Links = terms(32), nil }, api.OK},
		{func(b *budget.Budget) { b.Terms = terms(33) }, api.ErrSize},
		{func(b *budget.Budget) { b.Terms = make([]budget.Term, 33) }, api.ErrSize},
		{func(b *budget.Budget) { b.Results = results(32) }, api.OK},
		{func(b *budget.Budget) { b.Results = results(33) }, api.ErrSize},
		{func(b *budget.Budget) { b.Terms[0].Shape, b.Results = 9, results(33) }, api.ErrSize},
		{func(b *budget.Budget) { b.Links = make([]budget.Link, 1025) }, api.ErrSize},
		{func(b *budget.Budget) { b.Terms[0].Shape, b.Links = 9, make([]budget.Link, 1025) }, api.ErrSize},
		{func(b *budget.Budget) { b.Links = make([]budget.Link, 1024) }, api.ErrNone},
		{func(b *budget.Budget) { b.Terms[2].Name = "a" }, api.ErrTwice},
		{func(b *budget.Budget) { b.Terms[2].Name, b.Terms[2].Shape = "a", 9 }, api.ErrArg},
		{func(b *budget.Budget) { b.Terms[1].Name, b.Terms[2].Shape = "a", 9 }, api.ErrTwice},
		{func(b *budget.Budget) { b.Terms[1].Shape, b.Terms[2].Name = 9, "a" }, api.ErrArg},
		{func(b *budget.Budget) { b.Terms[2].Shape, b.Links[0].A = 9, "x" }, api.ErrArg},
		{func(b *budget.Budget) { b.Links[0].A = "x" }, api.ErrNone},
		{func(b *budget.Budget) { b.Links[0].B = "x" }, api.ErrNone},
		{func(b *budget.Budget) { b.Links[0] = link("x", "x", "1i") }, api.ErrNone},
		{func(b *budget.Budget) { b.Links[0] = link("r", "a", "0") }, api.ErrNone},
		{func(b *budget.Budget) { b.Links[0] = link("", "a", "0") }, api.ErrNone},
		{func(b *budget.Budget) { b.Links[0] = link("b", "b", "0") }, api.ErrArg},
		{func(b *budget.Budget) { b.Links[0] = link("a", "b", "1i") }, api.ErrArg},
		{func(b *budget.Budget) { b.Links = append(b.Links, link("a", "b", "1/10")) }, api.ErrTwice},
		{func(b *budget.Budget) { b.Links = append(b.Links, link("b", "a", "0")) }, api.ErrTwice},
		{func(b *budget.Budget) { b.Links = append(b.Links, link("b", "a", "1i")) }, api.ErrArg},
		{func(b *budget.Budget) { b.Links = append(b.Links, link("b", "a", "1"), link("x", "a", "1")) }, api.ErrTwice},
		{func(b *budget.Budget) { b.Links = append(b.Links, link("a", "a", "1"), link("a", "b", "1")) }, api.ErrArg},
		{func(b *budget.Budget) {
			b.Links[0].Covariance = num.Int(9)
			b.Links = append(b.Links, link("x", "a", "1"))
		}, api.ErrNone},
		{func(b *budget.Budget) { b.Links[0].Covariance, b.Results[0].Name = num.Int(9), "" }, api.ErrLink},
		{func(b *budget.Budget) { b.Links = append(b.Links, link("b", "c", "0")) }, api.OK},
		{func(b *budget.Budget) { b.Links = append(b.Links, link("b", "c", "1/1000")) }, api.ErrLink},
		{func(b *budget.Budget) { b.Results = append(b.Results, result("", "1")) }, api.ErrArg},
		{func(b *budget.Budget) { b.Results = append(b.Results, result("a b", "x")) }, api.ErrArg},
		{func(b *budget.Budget) { b.Results = append(b.Results, result("r", "x")) }, api.ErrTwice},
		{func(b *budget.Budget) { b.Results = append(b.Results, result("a", "x")) }, api.ErrTwice},
		{func(b *budget.Budget) { b.Results = append(b.Results, broken) }, api.ErrArg},
		{func(b *budget.Budget) { b.Results = append(b.Results, long) }, api.ErrSize},
		{func(b *budget.Budget) { b.Results = append(b.Results, long, broken) }, api.ErrSize},
		{func(b *budget.Budget) { b.Results = append(b.Results, broken, long) }, api.ErrArg},
		{func(b *budget.Budget) { b.Results = append(b.Results, budget.Result{Name: "r", Expr: broken.Expr}) }, api.ErrTwice},
		{func(b *budget.Budget) { b.Results = append(b.Results, result("z", "1 - x"), broken) }, api.ErrNone},
		{func(b *budget.Budget) { b.Results = append(b.Results, result("z", "z")) }, api.ErrNone},
		{func(b *budget.Budget) { b.Results = append(b.Results, result("y", "z"), result("z", "1")) }, api.ErrNone},
		{func(b *budget.Budget) { b.Results = append(b.Results, result("z", "r"), result("y", "z*r-a")) }, api.OK},
	} {
		b := whole(t)
		c.change(&b)
		hasError(t, "case "+strconv.Itoa(k), b, c.want)
	}
}

// TestLinks has covariances at the bound of what is possible.
func TestLinks(t *testing.T) {
	const terms = "term a 0 1 normal 1\nterm b 0 6 normal 3\nterm c 0 2 normal 2\nterm z 9 0 triangle\n" // with the variances 1, 4, 1, 0
	for _, c := range []struct {
		links string
		want  api.Errno
	}{
		{"", api.OK}, {"link a b 2", api.OK}, {"link a b -2", api.OK}, {"link b a 2.0000001", api.ErrLink}, {"link a b -2.0000001", api.ErrLink}, {"link a c 1", api.OK}, {"link a c 1.01", api.ErrLink},
		{"link a z 0", api.OK}, {"link z a 1e-9", api.ErrLink}, {"link a z -1e-9", api.ErrLink},
		{"link a b 2\nlink b c 2\nlink a c 1", api.OK}, {"link a b 2\nlink b c 2", api.ErrLink}, {"link a b 2\nlink b c 2\nlink a c -1", api.ErrLink}, {"link a b -2\nlink b c -2\nlink a c 1", api.OK}, {"link a b 2\nlink b c -2\nlink c a -1", api.OK},
		{"link a b 1\nlink b c 1\nlink a c -1/2", api.OK}, {"link a b 1\nlink b c 1\nlink a c -0.51", api.ErrLink},
	} {
		b, line, e := budget.Parse(terms + c.links)
		if e != c.want || line != 0 || (e != api.OK) != noBudget(b) {
			t.Errorf("Parse of the links %q: line %d, %d, want %d", c.links, line, e, c.want)
		}
	}
}

// badNodes returns expressions with ErrArg.
func badNodes(t testing.TB) []expr {
	a, one := expr{Kind: budget.Name, Name: "a"}, expr{Value: num.Int(1)}
	args := func(n int) []expr { return []expr{a, one, a, a}[:n] }
	var l []expr
	for _, kind := range []int{-1, 7, 8, math.MinInt, math.MaxInt} {
		l = append(l, expr{Kind: kind}, expr{Kind: kind, Args: args(1)}, expr{Kind: kind, Args: args(2)})
	}
	for kind := budget.Constant; kind <= budget.Quotient; kind++ {
		want := []int{0, 0, 1, 2, 2, 2, 2}[kind]
		x := expr{Kind: kind, Args: args(want)}
		if kind == budget.Name {
			x.Name = "a"
		}
		for n := range 5 {
			if n != want {
				y := x
				y.Args = args(n)
				l = append(l, y)
			}
		}
		if kind != budget.Constant {
			y := x
			y.Value = num.Int(1)
			l = append(l, y)
		}
		if kind != budget.Name {
			y := x
			y.Name = "a"
			l = append(l, y)
		}
	}
	for _, s := range []string{"-1", "1/2", "1i", "1+1i", "-1i", "0.5i", "-1/3"} {
		l = append(l, expr{Value: parse(t, s)})
	}
	for _, s := range []string{"", "1", "a b", "_a", "a\n", strings.Repeat("a", 25)} {
		l = append(l, expr{Kind: budget.Name, Name: s})
	}
	return l
}

// deep returns an expression with so many more nodes, of Sums whose first or second argument is the next one.
func deep(x expr, n, side int) expr {
	for range n / 2 {
		args := []expr{{Kind: budget.Name, Name: "a"}, {Kind: budget.Name, Name: "a"}}
		args[side] = x
		x = expr{Kind: budget.Sum, Args: args}
	}
	return x
}

// ring returns an expression with a node that is one of its own arguments.
func ring(kind int) expr {
	args := make([]expr, 2)
	if kind == budget.Negative {
		args = args[:1]
	}
	args[len(args)-1] = expr{Kind: kind, Args: args}
	return args[len(args)-1]
}

func TestExpressionErrors(t *testing.T) {
	bad := badNodes(t)
	var sized []expr
	for _, x := range bad {
		sized = append(sized, deep(x, 400, 0), deep(x, 400, 1), deep(x, 4000, 1))
	}
	a := expr{Kind: budget.Name, Name: "a"}
	sized = append(sized, deep(a, 400, 0), deep(a, 400, 1), deep(a, 100000, 0), expr{Kind: budget.Sum, Args: make([]expr, 400)}, expr{Kind: 9, Args: make([]expr, 100000)},
		ring(budget.Negative), ring(budget.Sum), ring(budget.Quotient), ring(budget.Constant), ring(9))
	for k, x := range bad {
		expressionFails(t, "bad "+strconv.Itoa(k), x, api.ErrArg)
		for _, side := range []int{0, 1} {
			if nodes(x) < 390 {
				expressionFails(t, "deep bad "+strconv.Itoa(k), deep(x, 8, side), api.ErrArg)
			}
		}
	}
	for k, x := range sized {
		expressionFails(t, "sized "+strconv.Itoa(k), x, api.ErrSize)
	}
	for _, x := range []expr{deep(a, 398, 0), deep(a, 398, 1), deep(expr{Kind: budget.Negative, Args: []expr{a}}, 398, 1), {}, {Args: []expr{}}} {
		expressionFails(t, "an expression without an error", x, api.OK)
	}
	expressionFails(t, "399 arguments", expr{Kind: budget.Sum, Args: make([]expr, 399)}, api.ErrArg)
}

// expressionFails tests that all functions of expressions return an error. a has the value 0.
func expressionFails(t testing.TB, what string, x expr, want api.Errno) {
	t.Helper()
	names := []string{"a"}
	y, e := budget.Evaluate(x, names, make([]num.Num, 1))
	code(t, "Evaluate, "+what, !y.Clear(), e, want)
	s, e := budget.Over(x, names, make([]box.Span, 1))
	code(t, "Over, "+what, noSpan(s), e, want)
	z, e := budget.Derive(x, "a")
	code(t, "Derive, "+what, treeText(z) == "[0 0 ]", e, want)
	b := whole(t)
	b.Results = append(slices.Clone(b.Results), budget.Result{Name: "x", Expr: x})
	if e := budget.Valid(b); e != want {
		t.Errorf("Valid, %s: %d, want %d", what, e, want)
	}
	text, e := budget.Print(b)
	code(t, "Print, "+what, text == "", e, want)
	y, e = budget.Value(b, "r")
	code(t, "Value, "+what, !y.Clear(), e, want)
}
