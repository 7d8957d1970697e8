package budget_test

import (
	"math"
	"slices"
	"strconv"
	"strings"
	"testing"

	"waveport/api"
	"waveport/box"
	"waveport/budget"
	"waveport/num"
)

// The tests of this file are about the rules that hold for all functions: P1, R2, R3 and R4.

// places returns where the nodes of an expression lie in memory, without the first one.
func places(x expr) []*expr {
	var l []*expr
	for i := range x.Args {
		l = append(append(l, &x.Args[i]), places(x.Args[i])...)
	}
	return l
}

// TestFreshDerivatives is R4: no two nodes lie in the same place, and none in that of a node of the argument.
func TestFreshDerivatives(t *testing.T) {
	d := dice(50)
	for range 200 {
		x := d.expr(abc, 4)
		before := treeText(x)
		z, e := budget.Derive(x, "a")
		if e != api.OK || treeText(x) != before {
			t.Fatalf("Derive of %s: %d, and then it is %s", before, e, treeText(x))
		}
		text := treeText(z)
		seen := map[*expr]bool{}
		for _, p := range append(places(x), places(z)...) {
			if seen[p] {
				t.Errorf("Derive of %s shares a node: %s", before, p.Name)
			}
			seen[p] = true
		}
		for _, p := range places(z) {
			if treeText(z) != text {
				t.Fatalf("nodes of %s share memory", text)
			}
			old := *p
			p.Kind, p.Args = 77, append(p.Args, expr{Name: "spoilt"})
			if treeText(x) != before {
				t.Fatalf("Derive of %s: a change of the result made it %s", before, treeText(x))
			}
			*p = old
		}
	}
}

// spare returns a list with another element behind its end.
func spare[T any](l []T, last T) []T {
	return append(slices.Clone(l), last)[:len(l)]
}

// behind returns what is behind the end of a list.
func behind[T any](l []T) T {
	return l[:len(l)+1][len(l)]
}

// TestMemory is R4: it spoils the results, and looks at the arguments and what is behind their ends.
func TestMemory(t *testing.T) {
	b := demoBudget(t)
	b.Terms = spare(b.Terms, budget.Term{Name: "last"})
	b.Links = spare(b.Links, budget.Link{A: "last"})
	b.Results = spare(b.Results, budget.Result{Name: "last"})
	names, values := spare(abc, "last"), spare(list(t, "1 2 3"), num.Int(99))
	spans := spare([]box.Span{around(values[0]), around(values[1]), around(values[2])}, span(t, 9, 9))
	l := spare(entries(t, "0 1,100 1,0 1,50 1"), budget.Entry{Laboratory: "last"})
	floats := spare([]float32{1, 2, 14}, 99)
	text := func() string {
		words := []string{budgetText(b), behind(b.Terms).Name, behind(b.Links).A, behind(b.Results).Name, strings.Join(names[:4], " "), listText(values[:4]), entryText(l), behind(l).Laboratory}
		for i := range spans[:4] {
			lo, hi := spans[:4][i].Ends()
			words = append(words, strconv.FormatFloat(lo+hi, 'g', -1, 64), strconv.FormatFloat(float64(floats[:4][min(i, 3)]), 'g', -1, 32))
		}
		return strings.Join(words, ";")
	}
	before := text()
	for range 2 {
		budget.Valid(b)
		budget.Print(b)
		budget.Value(b, "q")
		budget.Enclose(b, "q")
		budget.Combined(b, "q")
		budget.Expanded(b, "q", num.Int(1))
		budget.Evaluate(tree(t, "a-b"), names, values)
		budget.Over(tree(t, "a-b"), names, spans)
		budget.Reference(l)
		budget.Found(floats)
		shares, _ := budget.Shares(b, "q")
		spoil(shares, budget.Share{Term: "spoilt"})
		scores, _ := budget.Scores(l, num.Int(2))
		spoil(scores, num.Int(98))
		rest, _ := budget.Consistent(l, num.Int(2))
		if laboratories(rest) != "AC" {
			t.Errorf("Consistent: %s", entryText(rest))
		}
		spoil(rest, budget.Entry{Laboratory: "spoilt"})
		rest, _ = budget.Consistent(l[:3], num.Int(1000))
		if laboratories(rest) != "ABC" {
			t.Errorf("Consistent: %s", entryText(rest))
		}
		spoil(rest, budget.Entry{Laboratory: "spoilt"})
		alarms, _ := budget.Alarms(budget.Chart{Centre: 1, Sigma: 1}, floats)
		if !slices.Equal(alarms, []budget.Alarm{{Rule: 1, At: 2}}) {
			t.Errorf("Alarms: %v", alarms)
		}
		spoil(alarms, budget.Alarm{Rule: 98})
		x := read(t, demo)
		if budgetText(x) != budgetText(b) {
			t.Errorf("Parse: %s", budgetText(x))
		}
		spoil(x.Terms, budget.Term{Name: "spoilt"})
		spoil(x.Links, budget.Link{A: "spoilt"})
		for _, p := range places(x.Results[0].Expr) {
			p.Kind = 77
		}
		spoil(x.Results, budget.Result{Name: "spoilt"})
	}
	if got := text(); got != before {
		t.Errorf("the arguments became %s, from %s", got, before)
	}
}

// spoil writes to all places of a list, also behind its end.
func spoil[T any](l []T, x T) {
	for i := range l[:cap(l)] {
		l[:cap(l)][i] = x
	}
}

// TestEmptyLists is R3: a nil list is an empty one.
func TestEmptyLists(t *testing.T) {
	empty := budget.Budget{Terms: []budget.Term{}, Links: []budget.Link{}, Results: []budget.Result{}}
	for _, b := range []budget.Budget{{}, empty} {
		s, e := budget.Print(b)
		code(t, "Print", s == "", e, api.OK)
		if e := budget.Valid(b); s != "" || e != api.OK {
			t.Errorf("Valid: %d, Print: %q", e, s)
		}
		x, e := budget.Value(b, "")
		code(t, "Value", !x.Clear(), e, api.ErrNone)
	}
	for _, args := range [][]expr{nil, {}} {
		one := expr{Value: num.Int(1), Args: args}
		x, e := budget.Evaluate(expr{Kind: budget.Negative, Args: []expr{one}}, nil, []num.Num{})
		is(t, "Evaluate", x, e, "-1")
		s, e := budget.Over(one, []string{}, nil)
		isSpan(t, "Over", s, e, 1, 1)
		d, e := budget.Derive(expr{Kind: budget.Name, Name: "a", Args: args}, "a")
		if treeText(d) != treeText(expr{Value: num.Int(1)}) || e != api.OK {
			t.Errorf("Derive: %s, %d", treeText(d), e)
		}
	}
	for _, none := range [][]float32{nil, {}} {
		l, e := budget.Alarms(budget.Chart{}, none)
		if len(l) != 0 || e != api.OK {
			t.Errorf("Alarms: %v, %d", l, e)
		}
	}
}

// TestRings has expressions that contain themselves: they have more nodes than any limit.
func TestRings(t *testing.T) {
	for kind := -1; kind <= budget.Quotient+1; kind++ {
		x := ring(kind)
		y, e := budget.Evaluate(x, nil, nil)
		code(t, "Evaluate", !y.Clear(), e, api.ErrSize)
		s, e := budget.Over(x, nil, nil)
		code(t, "Over", noSpan(s), e, api.ErrSize)
		d, e := budget.Derive(x, "a")
		code(t, "Derive", treeText(d) == treeText(expr{}), e, api.ErrSize)
		b := budget.Budget{Results: []budget.Result{{Name: "r", Expr: x}}}
		hasError(t, "a ring", b, api.ErrSize)
	}
	// Nodes that many others share count each time.
	x := tree(t, "a")
	for range 60 {
		x = expr{Kind: budget.Sum, Args: []expr{x, x}}
	}
	y, e := budget.Evaluate(x, []string{"a"}, list(t, "1"))
	code(t, "Evaluate", !y.Clear(), e, api.ErrSize)
}

// TestZeroValues has arguments that were never set.
func TestZeroValues(t *testing.T) {
	x, e := budget.Evaluate(expr{}, nil, nil)
	is(t, "Evaluate", x, e, "0")
	s, e := budget.Over(expr{}, nil, nil)
	isSpan(t, "Over", s, e, 0, 0)
	d, e := budget.Derive(expr{}, "")
	code(t, "Derive", treeText(d) == treeText(expr{}), e, api.OK)
	v, e := budget.Variance(budget.Term{})
	code(t, "Variance", !v.Clear(), e, api.ErrArg)
	hasError(t, "zero terms", budget.Budget{Terms: make([]budget.Term, 1)}, api.ErrArg)
	hasError(t, "zero links", budget.Budget{Links: make([]budget.Link, 1)}, api.ErrNone)
	hasError(t, "zero results", budget.Budget{Results: make([]budget.Result, 1)}, api.ErrArg)
	l, e := budget.Consistent(make([]budget.Entry, 2), num.Num{})
	code(t, "Consistent", len(l) == 0, e, api.ErrArg)
	c, e := budget.Found(make([]float32, 2))
	if (c != budget.Chart{}) || e != api.OK {
		t.Errorf("Found: %v, %d", c, e)
	}
}

// TestGreatNumbers has numbers that are not float64s.
func TestGreatNumbers(t *testing.T) {
	great := num.Int(1)
	for range 40 {
		great = great.Mul(parse(t, "1e400"))
	}
	b := budget.Budget{
		Terms:   []budget.Term{{Name: "a", Value: great, Half: great, Shape: budget.Rectangle}, {Name: "b", Value: quotient(num.Int(1), great), Half: great, Factor: great}},
		Results: []budget.Result{{Name: "r", Expr: tree(t, "a*b")}, {Name: "s", Expr: tree(t, "a")}, {Name: "c", Expr: expr{Value: great}}},
	}
	x, e := budget.Value(b, "r")
	is(t, "Value", x, e, "1")
	s, e := budget.Enclose(b, "s")
	isSpan(t, "Enclose", s, e, 0, math.Inf(1))
	s, e = budget.Enclose(b, "c")
	isSpan(t, "Enclose", s, e, math.MaxFloat64, math.Inf(1))
	l, e := budget.Shares(b, "r")
	if e != api.OK || len(l) != 2 || !l[1].Slope.Same(great) || !l[0].Variance.Same(fraction(1, 3)) {
		t.Errorf("Shares: %d", e)
	}
	text, e := budget.Print(b)
	if e != api.OK || len(text) < 16000 {
		t.Errorf("Print: %d bytes, %d", len(text), e)
	}
}

// quotient returns x/y for a y that is not 0.
func quotient(x, y num.Num) num.Num {
	q, _ := x.Div(y)
	return q
}
