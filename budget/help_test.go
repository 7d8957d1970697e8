package budget_test

import (
	"go/ast"
	"go/parser"
	"go/token"
	"math/big"
	"slices"
	"strconv"
	"strings"
	"testing"

	"waveport/api"
	"waveport/box"
	"waveport/budget"
	"waveport/num"
)

type expr = budget.Expr

// parse returns the number with a text.
func parse(t testing.TB, s string) num.Num {
	t.Helper()
	x, e := num.Parse(s)
	if e != api.OK {
		t.Fatalf("Parse(%q): %d", s, e)
	}
	return x
}

// list returns the numbers with texts that are parted by blanks.
func list(t testing.TB, s string) []num.Num {
	t.Helper()
	var out []num.Num
	for _, w := range strings.Fields(s) {
		out = append(out, parse(t, w))
	}
	return out
}

func listText(l []num.Num) string {
	var words []string
	for _, x := range l {
		words = append(words, x.Text())
	}
	return strings.Join(words, " ")
}

// fraction returns the real number p/q.
func fraction(p, q int) num.Num {
	x, _ := num.New(int64(p), 0, int64(q))
	return x
}

// rat returns a real number of the kind that Go's library has.
func rat(x num.Num) *big.Rat {
	r, _ := new(big.Rat).SetString(x.Text())
	return r
}

// number returns a number of Go's library.
func number(r *big.Rat) num.Num {
	x, _ := num.Parse(r.RatString())
	return x
}

// is tests a number of a result.
func is(t testing.TB, what string, x num.Num, e api.Errno, want string) {
	t.Helper()
	if x.Text() != want || e != api.OK {
		t.Errorf("%s: %s, %d, want %s", what, x.Text(), e, want)
	}
}

// code tests an error, and that nothing comes with it.
func code(t testing.TB, what string, empty bool, e, want api.Errno) {
	t.Helper()
	if e != want || e != api.OK && !empty {
		t.Errorf("%s: %d, want %d, empty: %v", what, e, want, empty)
	}
}

// isSpan tests a span of a result.
func isSpan(t testing.TB, what string, s box.Span, e api.Errno, lo, hi float64) {
	t.Helper()
	if a, b := s.Ends(); a != lo || b != hi || e != api.OK {
		t.Errorf("%s: %v to %v, %d, want %v to %v", what, a, b, e, lo, hi)
	}
}

// noSpan reports whether a span is the zero value.
func noSpan(s box.Span) bool {
	lo, hi := s.Ends()
	return lo == 0 && hi == 0
}

// noBudget reports whether a budget is the zero value.
func noBudget(b budget.Budget) bool {
	return len(b.Terms) == 0 && len(b.Links) == 0 && len(b.Results) == 0
}

// span returns the span with two ends.
func span(t testing.TB, lo, hi float64) box.Span {
	t.Helper()
	s, e := box.MakeSpan(lo, hi)
	if e != api.OK {
		t.Fatalf("MakeSpan(%v, %v): %d", lo, hi, e)
	}
	return s
}

// around returns the tightest span around a number.
func around(x num.Num) box.Span {
	s, _ := box.Around(x, x)
	return s
}

// tree returns the expression with a text, in which operators and parentheses mean what they mean in Go.
func tree(t testing.TB, text string) expr {
	t.Helper()
	x, err := parser.ParseExpr(strings.ReplaceAll(text, "-", " - "))
	if err != nil {
		t.Fatalf("%s: %v", text, err)
	}
	return fromGo(t, x)
}

func fromGo(t testing.TB, x ast.Expr) expr {
	t.Helper()
	kinds := map[token.Token]int{token.ADD: budget.Sum, token.SUB: budget.Difference, token.MUL: budget.Product, token.QUO: budget.Quotient}
	switch x := x.(type) {
	case *ast.ParenExpr:
		return fromGo(t, x.X)
	case *ast.Ident:
		return expr{Kind: budget.Name, Name: x.Name}
	case *ast.BasicLit:
		return expr{Kind: budget.Constant, Value: parse(t, x.Value)}
	case *ast.UnaryExpr:
		return expr{Kind: budget.Negative, Args: []expr{fromGo(t, x.X)}}
	case *ast.BinaryExpr:
		return expr{Kind: kinds[x.Op], Args: []expr{fromGo(t, x.X), fromGo(t, x.Y)}}
	}
	t.Fatalf("no expression: %v", x)
	return expr{}
}

// treeText tells expressions apart.
func treeText(x expr) string {
	words := []string{strconv.Itoa(x.Kind), x.Value.Text(), x.Name}
	for _, a := range x.Args {
		words = append(words, treeText(a))
	}
	return "[" + strings.Join(words, " ") + "]"
}

// nodes returns the number of nodes of an expression.
func nodes(x expr) int {
	n := 1
	for _, a := range x.Args {
		n += nodes(a)
	}
	return n
}

// namesIn returns the names in an expression.
func namesIn(x expr) []string {
	var l []string
	if x.Kind == budget.Name {
		l = append(l, x.Name)
	}
	for _, a := range x.Args {
		l = append(l, namesIn(a)...)
	}
	return l
}

// budgetText tells budgets apart.
func budgetText(b budget.Budget) string {
	var words []string
	for _, x := range b.Terms {
		words = append(words, "term", x.Name, listText([]num.Num{x.Value, x.Half, x.Factor}), strconv.Itoa(x.Shape))
	}
	for _, x := range b.Links {
		words = append(words, "link", x.A, x.B, x.Covariance.Text())
	}
	for _, x := range b.Results {
		words = append(words, "result", x.Name, treeText(x.Expr))
	}
	return strings.Join(words, ";")
}

// read returns the budget with a text.
func read(t testing.TB, text string) budget.Budget {
	t.Helper()
	b, line, e := budget.Parse(text)
	if line != 0 || e != api.OK {
		t.Fatalf("Parse(%q): line %d, %d", text, line, e)
	}
	return b
}

// dual is a value of Go's library with its slope by something.
type dual struct{ value, slope *big.Rat }

func newRat() *big.Rat { return new(big.Rat) }

// dualOf computes an expression with the rules of slopes, and reports whether it has a value.
func dualOf(x expr, values map[string]dual) (dual, bool) {
	switch x.Kind {
	case budget.Constant:
		return dual{rat(x.Value), newRat()}, true
	case budget.Name:
		v, ok := values[x.Name]
		return v, ok
	}
	a, ok := dualOf(x.Args[0], values)
	if !ok {
		return a, false
	}
	if x.Kind == budget.Negative {
		return dual{newRat().Neg(a.value), newRat().Neg(a.slope)}, true
	}
	b, ok := dualOf(x.Args[1], values)
	if !ok {
		return b, false
	}
	left, right := newRat().Mul(a.slope, b.value), newRat().Mul(a.value, b.slope)
	switch x.Kind {
	case budget.Sum:
		return dual{newRat().Add(a.value, b.value), newRat().Add(a.slope, b.slope)}, true
	case budget.Difference:
		return dual{newRat().Sub(a.value, b.value), newRat().Sub(a.slope, b.slope)}, true
	case budget.Product:
		return dual{newRat().Mul(a.value, b.value), newRat().Add(left, right)}, true
	}
	if b.value.Sign() == 0 {
		return dual{}, false
	}
	slope := newRat().Quo(newRat().Sub(left, right), newRat().Mul(b.value, b.value))
	return dual{newRat().Quo(a.value, b.value), slope}, true
}

// valuesOf returns the values of names, with the slope 1 for one of them and 0 for the others.
func valuesOf(names []string, values []num.Num, name string) map[string]dual {
	m := map[string]dual{}
	for i, n := range names {
		slope := newRat()
		if n == name {
			slope.SetInt64(1)
		}
		m[n] = dual{rat(values[i]), slope}
	}
	return m
}

// dice is a row of numbers that look random and are always the same.
type dice uint64

func (d *dice) next() uint64 {
	*d += 0x9e3779b97f4a7c15
	z := uint64(*d)
	z = (z ^ z>>30) * 0xbf58476d1ce4e5b9
	z = (z ^ z>>27) * 0x94d049bb133111eb
	return z ^ z>>31
}

func (d *dice) below(n int) int { return int(d.next() % uint64(n)) }

// real returns a small real number.
func (d *dice) real() num.Num { return fraction(d.below(19)-9, d.below(9)+1) }

// positive returns a small real number above 0.
func (d *dice) positive() num.Num { return fraction(d.below(9)+1, d.below(9)+1) }

func (d *dice) reals(n int) []num.Num {
	l := make([]num.Num, n)
	for i := range l {
		l[i] = d.real()
	}
	return l
}

// pick returns one of some kinds.
func (d *dice) pick(kinds ...int) int { return kinds[d.below(len(kinds))] }

// expr returns an expression over names with at most so many levels of nodes behind the first one.
func (d *dice) expr(names []string, levels int) expr {
	return d.exprOf(names, levels, budget.Negative, budget.Sum, budget.Difference, budget.Product, budget.Quotient)
}

// polynomial is expr without quotients.
func (d *dice) polynomial(names []string, levels int) expr {
	return d.exprOf(names, levels, budget.Negative, budget.Sum, budget.Difference, budget.Product)
}

func (d *dice) exprOf(names []string, levels int, kinds ...int) expr {
	if levels == 0 || d.below(6) == 0 {
		if d.below(3) == 0 || len(names) == 0 {
			return expr{Kind: budget.Constant, Value: num.Int(int64(d.below(5)))}
		}
		return expr{Kind: budget.Name, Name: names[d.below(len(names))]}
	}
	x := expr{Kind: d.pick(kinds...), Args: []expr{d.exprOf(names, levels-1, kinds...)}}
	if x.Kind != budget.Negative {
		x.Args = append(x.Args, d.exprOf(names, levels-1, kinds...))
	}
	return x
}

// term returns a term with a name.
func (d *dice) term(name string) budget.Term {
	x := budget.Term{Name: name, Value: d.real(), Half: fraction(d.below(9), d.below(9)+1), Shape: d.below(4)}
	if x.Shape == budget.Normal {
		x.Factor = d.positive()
	}
	return x
}

// budget returns a budget with some terms, links and results. The variance of each term is at least the sum of its covariances.
func (d *dice) budget(terms, results int) budget.Budget {
	var b budget.Budget
	var names []string
	var variances []num.Num
	for i := range terms {
		x := d.term("t" + strconv.Itoa(i))
		v, _ := budget.Variance(x)
		names, variances = append(names, x.Name), append(variances, v)
		b.Terms = append(b.Terms, x)
	}
	for i := range names {
		for k := range i {
			if d.below(3) > 0 {
				continue
			}
			least := variances[i]
			if variances[k].Cmp(least) < 0 {
				least = variances[k]
			}
			l := budget.Link{A: names[i], B: names[k], Covariance: least.Mul(fraction(d.below(19)-9, 9*terms))}
			if d.below(2) == 0 {
				l.A, l.B = l.B, l.A
			}
			b.Links = append(b.Links, l)
		}
	}
	for i := range results {
		r := budget.Result{Name: "r" + strconv.Itoa(i), Expr: d.expr(names, 3)}
		names = append(names, r.Name)
		b.Results = append(b.Results, r)
	}
	return b
}

// shuffled returns the elements of a list in another order.
func shuffled[T any](d *dice, l []T) []T {
	l = slices.Clone(l)
	for i := range l {
		k := d.below(i + 1)
		l[i], l[k] = l[k], l[i]
	}
	return l
}
