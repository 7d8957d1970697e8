package budget_test

import (
	"math"
	"strconv"
	"testing"

	"waveport/api"
	"waveport/box"
	"waveport/budget"
	"waveport/num"
)

var abc = []string{"a", "b", "c"}

func TestEvaluate(t *testing.T) {
	for _, c := range []struct{ text, values, want string }{
		{"7", "0 0 0", "7"}, {"a", "-2/3 0 0", "-2/3"}, {"-a", "5 0 0", "-5"}, {"a+b", "1/2 1/3 0", "5/6"}, {"a-b", "1/2 1/3 0", "1/6"}, {"a*b", "1/2 -1/3 0", "-1/6"}, {"a/b", "1/2 1/3 0", "3/2"},
		{"-(a+2)*b/(c-1)", "1 2 5", "-3/2"}, {"a-b-c", "1 2 3", "-4"}, {"a/b/c", "1 2 3", "1/6"}, {"a-(b-c)", "1 2 3", "2"}, {"0/a", "3 0 0", "0"}, {"a-a", "3 0 0", "0"}, {"0*a", "3 0 0", "0"}, {"--a", "3 0 0", "3"},
	} {
		x, e := budget.Evaluate(tree(t, c.text), abc, list(t, c.values))
		is(t, c.text+" of "+c.values, x, e, c.want)
	}
	x, e := budget.Evaluate(tree(t, "a-b"), []string{"b", "a", "b", "a", "", "no name"}, list(t, "1 2 3 4 5 6"))
	is(t, "names that occur twice", x, e, "1")
	x, e = budget.Evaluate(tree(t, "12"), nil, nil)
	is(t, "a constant", x, e, "12")
}

func TestEvaluateErrors(t *testing.T) {
	bad := expr{Kind: 9}
	for _, c := range []struct {
		x      expr
		values string
		want   api.Errno
	}{
		{tree(t, "a"), "1", api.ErrSize}, {tree(t, "a"), "", api.ErrSize}, {tree(t, "a"), "1 2 3 4", api.ErrSize}, {bad, "1i 2", api.ErrSize},
		{tree(t, "a"), "1 1i 3", api.ErrArg}, {tree(t, "a"), "1 2 3-1i", api.ErrArg}, {tree(t, "1/0"), "1 2 3-1i", api.ErrArg}, {bad, "1 2 3", api.ErrArg}, {deep(tree(t, "a"), 400, 0), "1 2 1i", api.ErrArg}, {deep(tree(t, "a"), 400, 0), "1 2 3", api.ErrSize},
		{tree(t, "d"), "1 2 3", api.ErrNone}, {tree(t, "A"), "1 2 3", api.ErrNone}, {tree(t, "1+d*0"), "1 2 3", api.ErrNone},
		{tree(t, "1/0"), "1 2 3", api.ErrZero}, {tree(t, "1/(a-1)"), "1 2 3", api.ErrZero}, {tree(t, "0/0"), "1 2 3", api.ErrZero}, {tree(t, "0*(1/0)"), "1 2 3", api.ErrZero}, {tree(t, "a/(b-2*a)"), "1 2 3", api.ErrZero},
		{tree(t, "d+1/0"), "1 2 3", api.ErrNone}, {tree(t, "1/0+d"), "1 2 3", api.ErrZero}, {tree(t, "d/0"), "1 2 3", api.ErrNone}, {tree(t, "(1/0)/d"), "1 2 3", api.ErrZero}, {tree(t, "(a+d)/0"), "1 2 3", api.ErrNone}, {tree(t, "-(1/0)*d"), "1 2 3", api.ErrZero}, {tree(t, "-d*(1/0)"), "1 2 3", api.ErrNone},
	} {
		values := list(t, c.values)
		y, e := budget.Evaluate(c.x, abc, values)
		code(t, "Evaluate of "+treeText(c.x), !y.Clear(), e, c.want)
		spans := make([]box.Span, len(values))
		fine := true
		for i, v := range values {
			fine = fine && v.Real()
			spans[i] = around(v.Re())
		}
		if fine || c.want == api.ErrSize {
			s, e := budget.Over(c.x, abc, spans)
			code(t, "Over of "+treeText(c.x), noSpan(s), e, c.want)
		}
	}
	y, e := budget.Evaluate(tree(t, "1"), nil, list(t, "1"))
	code(t, "Evaluate with more values", !y.Clear(), e, api.ErrSize)
	s, e := budget.Over(tree(t, "1"), nil, make([]box.Span, 1))
	code(t, "Over with more spans", noSpan(s), e, api.ErrSize)
}

func TestOver(t *testing.T) {
	inf := math.Inf(1)
	spans := []box.Span{span(t, 1, 2), span(t, -3, 4), span(t, 2, inf)}
	third := around(fraction(1, 3))
	lo, hi := third.Ends()
	for _, c := range []struct {
		text   string
		lo, hi float64
	}{
		{"5", 5, 5}, {"a", 1, 2}, {"c", 2, inf}, {"-b", -4, 3}, {"-c", -inf, -2}, {"a+b", -2, 6}, {"a-b", -3, 5}, {"a*b", -6, 8}, {"b/a", -3, 4}, {"a/c", 0, 1}, {"c-c", -inf, inf},
		{"a-a", -1, 1}, {"a/a", 0.5, 2}, {"b*b", -12, 16}, {"(a+b)*2", -4, 12}, {"a*2+b*2", -4, 12}, {"a*(b-b)", -14, 14}, {"1/3", lo, hi}, {"9007199254740993", 9007199254740992, 9007199254740994},
	} {
		s, e := budget.Over(tree(t, c.text), abc, spans)
		isSpan(t, "Over of "+c.text, s, e, c.lo, c.hi)
	}
	for _, text := range []string{"a/b", "1/(a-1)", "1/(a-2)", "b/(b*0)", "1/(a-a)"} {
		s, e := budget.Over(tree(t, text), abc, spans)
		code(t, "Over of "+text, noSpan(s), e, api.ErrZero)
	}
	s, e := budget.Over(tree(t, "a"), []string{"b", "a", "a"}, spans)
	isSpan(t, "Over of a name that occurs twice", s, e, -3, 4)
	s, e = budget.Over(tree(t, "1"), nil, nil)
	isSpan(t, "Over of a constant", s, e, 1, 1)
}

// TestOverSteps computes with spans, one operation after the other, as the chapter says.
func TestOverSteps(t *testing.T) {
	d := dice(10)
	exist := 0
	for range 500 {
		x := d.expr(abc, 4)
		spans := map[string]box.Span{}
		var l []box.Span
		for _, name := range abc {
			s := d.span(d.real())
			spans[name] = s
			l = append(l, s)
		}
		s, e := budget.Over(x, abc, l)
		want, ok := stepSpan(x, spans)
		if ok != (e == api.OK) || !ok && e != api.ErrZero || s != want {
			t.Errorf("Over of %s: %v, %d, want %v, %v", treeText(x), s, e, want, ok)
		}
		if ok {
			exist++
		}
	}
	if exist < 200 {
		t.Errorf("%d of 500 exist", exist)
	}
}

func stepSpan(x expr, spans map[string]box.Span) (box.Span, bool) {
	switch x.Kind {
	case budget.Constant:
		return around(x.Value), true
	case budget.Name:
		return spans[x.Name], true
	}
	var l []box.Span
	for _, a := range x.Args {
		s, ok := stepSpan(a, spans)
		if !ok {
			return box.Span{}, false
		}
		l = append(l, s)
	}
	switch x.Kind {
	case budget.Negative:
		return box.Span{}.Sub(l[0]), true
	case budget.Sum:
		return l[0].Add(l[1]), true
	case budget.Difference:
		return l[0].Sub(l[1]), true
	case budget.Product:
		return l[0].Mul(l[1]), true
	}
	q, e := l[0].Div(l[1])
	return q, e == api.OK
}

// span returns a span with a number in it; some have no bound on one side.
func (d *dice) span(x num.Num) box.Span {
	w := []float64{0, 0x1p-40, 0x1p-10, 0.5}[d.below(4)]
	lo, hi := -w*float64(d.below(2)), w
	if d.below(30) == 0 {
		hi = math.Inf(1)
	}
	s, _ := box.MakeSpan(lo, hi)
	return s.Add(around(x))
}

// inside returns a number in a span, whose ends are finite or far away.
func (d *dice) inside(s box.Span) num.Num {
	lo, hi := s.Ends()
	if math.IsInf(hi, 1) {
		hi = lo + 1000
	}
	a, _ := num.Complex(complex(lo, 0))
	b, _ := num.Complex(complex(hi, 0))
	return a.Add(b.Sub(a).Mul(fraction(d.below(5), 4)))
}

// TestEvery is P9.3 for expressions.
func TestEvery(t *testing.T) {
	d := dice(11)
	exist := 0
	for range 500 {
		x := d.expr(abc, 4)
		var wide, narrow []box.Span
		for range abc {
			s := d.span(d.real())
			a, b := d.inside(s), d.inside(s)
			n, _ := box.Around(a, b)
			wide = append(wide, s)
			if !n.In(s) {
				n = s
			}
			narrow = append(narrow, n)
		}
		s, e := budget.Over(x, abc, wide)
		if e != api.OK {
			continue
		}
		exist++
		n, e := budget.Over(x, abc, narrow)
		if e != api.OK || !n.In(s) {
			t.Errorf("Over of %s: %v, %d, does not lie in %v", treeText(x), n, e, s)
		}
		for range 5 {
			var values []num.Num
			for _, w := range wide {
				values = append(values, d.inside(w))
			}
			y, e := budget.Evaluate(x, abc, values)
			if e != api.OK || !s.Has(y) {
				t.Errorf("Evaluate of %s: %s, %d, not in %v", treeText(x), y.Text(), e, s)
			}
		}
	}
	if exist < 200 {
		t.Errorf("%d of 500 exist", exist)
	}
}

// TestEvaluateAll compares with fractions of Go's library.
func TestEvaluateAll(t *testing.T) {
	d := dice(12)
	exist := 0
	for range 500 {
		x, values := d.expr(abc, 4), d.reals(3)
		y, e := budget.Evaluate(x, abc, values)
		want, ok := dualOf(x, valuesOf(abc, values, ""))
		switch {
		case !ok:
			code(t, "Evaluate of "+treeText(x), !y.Clear(), e, api.ErrZero)
		default:
			is(t, "Evaluate of "+treeText(x), y, e, number(want.value).Text())
			exist++
		}
	}
	if exist < 200 {
		t.Errorf("%d of 500 exist", exist)
	}
}

func TestDerive(t *testing.T) {
	for _, c := range []struct{ text, want string }{
		{"3", "0"}, {"a", "1"}, {"b", "0"}, {"-a", "-1"}, {"a+b", "1+0"}, {"a-b", "1-0"}, {"b-a", "0-1"}, {"a*b", "1*b+a*0"}, {"a*a", "1*a+a*1"}, {"a/b", "(1*b-a*0)/(b*b)"}, {"2/a", "(0*a-2*1)/(a*a)"},
		{"(a+2)*(b*c)", "(1+0)*(b*c)+(a+2)*(0*c+b*0)"}, {"-(a/(b-a))", "-((1*(b-a)-a*(0-1))/((b-a)*(b-a)))"},
	} {
		d, e := budget.Derive(tree(t, c.text), "a")
		if e != api.OK || treeText(d) != treeText(tree(t, c.want)) {
			t.Errorf("Derive of %s: %s, %d, want %s", c.text, treeText(d), e, c.want)
		}
	}
	for _, name := range []string{"", "x", "no name", "1", "\xff", "A"} {
		d, e := budget.Derive(tree(t, "a*1"), name)
		if e != api.OK || treeText(d) != treeText(tree(t, "0*1+a*0")) {
			t.Errorf("Derive by %q: %s, %d", name, treeText(d), e)
		}
	}
}

// TestLongDerivative has a derivative with more nodes than an expression may have.
func TestLongDerivative(t *testing.T) {
	x := tree(t, "a")
	for range 199 {
		x = expr{Kind: budget.Quotient, Args: []expr{tree(t, "a"), x}}
	}
	d, e := budget.Derive(x, "a")
	// A Quotient with n nodes in its divisor gives 1 + 1 + 1 + 1 + n + 1 + 1 + 1 + n + n nodes beside the derivative of this.
	if want := 1 + 199*7 + 3*199*199; e != api.OK || nodes(d) != want {
		t.Errorf("Derive: %d nodes, %d, want %d", nodes(d), e, want)
	}
	y, e := budget.Evaluate(d, abc, list(t, "1 2 3"))
	code(t, "Evaluate of the derivative", !y.Clear(), e, api.ErrSize)
	b := read(t, "term a 2 1 rectangle\n")
	b.Results = []budget.Result{{Name: "r", Expr: x}}
	l, e := budget.Shares(b, "r")
	if e != api.OK || len(l) != 1 || l[0].Slope.Text() != "0" {
		t.Errorf("Shares: %v, %d", l, e)
	}
	b.Results[0].Expr = x.Args[1]
	l, e = budget.Shares(b, "r")
	if e != api.OK || len(l) != 1 || l[0].Slope.Text() != "1" {
		t.Errorf("Shares: %v, %d", l, e)
	}
}

// TestDerivatives is P9.4.
func TestDerivatives(t *testing.T) {
	d := dice(13)
	exist := 0
	for range 500 {
		x, y, values := d.expr(abc, 3), d.expr(abc, 2), d.reals(3)
		for _, name := range append(abc, "z") {
			want, ok := dualOf(x, valuesOf(abc, values, name))
			z, e := budget.Derive(x, name)
			if e != api.OK {
				t.Fatalf("Derive of %s: %d", treeText(x), e)
			}
			v, e := budget.Evaluate(z, abc, values)
			if nodes(z) > api.MaxNodes {
				code(t, "Evaluate of a derivative", !v.Clear(), e, api.ErrSize)
				continue
			}
			if !ok {
				continue
			}
			exist++
			is(t, "the derivative of "+treeText(x)+" by "+name, v, e, number(want.slope).Text())
			if name == "z" {
				is(t, "a derivative by another name", v, e, "0")
			}
			sum, e := budget.Derive(expr{Kind: budget.Sum, Args: []expr{x, y}}, name)
			w, _ := budget.Derive(y, name)
			if treeText(sum) != treeText(expr{Kind: budget.Sum, Args: []expr{z, w}}) {
				t.Errorf("Derive of a Sum: %s, %d", treeText(sum), e)
			}
		}
	}
	if exist < 1000 {
		t.Errorf("%d exist", exist)
	}
}

// TestLinear is P9.4 for expressions that are linear in a name.
func TestLinear(t *testing.T) {
	d := dice(14)
	rest := []string{"b", "c"}
	for i := range 200 {
		// Sums of products in which a occurs once at most.
		x := d.polynomial(rest, 2)
		for range d.below(4) {
			factors := []expr{{Kind: budget.Name, Name: "a"}, d.polynomial(rest, 2)}
			if d.below(2) == 0 {
				factors[0], factors[1] = factors[1], factors[0]
			}
			x = expr{Kind: d.pick(budget.Sum, budget.Difference), Args: []expr{x, {Kind: budget.Product, Args: factors}}}
			if d.below(2) == 0 {
				x = expr{Kind: budget.Negative, Args: []expr{x}}
			}
		}
		slope, e := budget.Derive(x, "a")
		if e != api.OK {
			t.Fatalf("Derive: %d", e)
		}
		first := d.reals(3)
		second := []num.Num{d.real(), first[1], first[2]}
		p, _ := budget.Evaluate(x, abc, first)
		q, _ := budget.Evaluate(x, abc, second)
		s, e := budget.Evaluate(slope, abc, first)
		is(t, "a difference of values, case "+strconv.Itoa(i), s.Mul(second[0].Sub(first[0])), e, q.Sub(p).Text())
	}
}
