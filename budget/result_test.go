package budget_test

import (
	"math"
	"math/big"
	"slices"
	"strconv"
	"strings"
	"testing"

	"waveport/api"
	"waveport/box"
	"waveport/budget"
	"waveport/num"
)

const pair = "term a 1 1/2 rectangle\nterm b 2 1 normal 2\n"

func TestValue(t *testing.T) {
	b := read(t, pair+"result p = a * b\nresult q = p / (a + 1) - b\nresult z = q / (p - 2)\nresult y = 5\nresult x = p\n")
	for name, want := range map[string]string{"p": "2", "q": "-1"} {
		x, e := budget.Value(b, name)
		is(t, "Value of "+name, x, e, want)
	}
	// y and x do not need z, but stand behind it.
	for _, name := range []string{"z", "y", "x"} {
		resultFails(t, "a division by 0", b, name, api.ErrZero)
	}
	for _, name := range []string{"a", "b", "", "P", "pp", "p "} {
		resultFails(t, "no result", b, name, api.ErrNone)
	}
}

func TestEnclose(t *testing.T) {
	b := read(t, pair+"term c 1/3 0 triangle\nresult p = a * b\nresult q = p - a\nresult s = a + c\nresult k = c\nresult z = 1 / (a - 1)\nresult y = 1\n")
	s, e := budget.Enclose(b, "p")
	isSpan(t, "Enclose", s, e, 0.5, 4.5)
	s, e = budget.Enclose(b, "q")
	isSpan(t, "Enclose", s, e, -1, 4)
	lo, hi := around(fraction(1, 3)).Ends()
	s, e = budget.Enclose(b, "k")
	isSpan(t, "Enclose", s, e, lo, hi)
	s, e = budget.Enclose(b, "s")
	isSpan(t, "Enclose", s, e, 0.5+lo, 1.5+hi)
	for _, name := range []string{"z", "y"} {
		s, e = budget.Enclose(b, name)
		code(t, "Enclose of "+name, noSpan(s), e, api.ErrZero)
	}
	// The value exists here, but not the span.
	b = read(t, pair+"result r = 1 / (2 * a - 1)\n")
	x, e := budget.Value(b, "r")
	is(t, "Value", x, e, "1")
	s, e = budget.Enclose(b, "r")
	code(t, "Enclose", noSpan(s), e, api.ErrZero)
	b = read(t, "term a 0.1 0.3 rectangle\nresult r = a\n")
	want, _ := box.Around(fraction(-1, 5), fraction(2, 5))
	s, e = budget.Enclose(b, "r")
	lo, hi = want.Ends()
	isSpan(t, "Enclose", s, e, lo, hi)
}

// TestEncloseAll is P9.3 for budgets.
func TestEncloseAll(t *testing.T) {
	d := dice(20)
	exist := 0
	for range 300 {
		b := d.budget(4, 3)
		for i := range b.Terms {
			b.Terms[i].Half = b.Terms[i].Half.Mul(fraction(1, 20))
		}
		b.Links = nil
		for _, name := range []string{"r0", "r1", "r2"} {
			s, e := budget.Enclose(b, name)
			if e != api.OK {
				code(t, "Enclose", noSpan(s), e, api.ErrZero)
				continue
			}
			exist++
			for range 5 {
				x, e := budget.Value(b, name)
				if e != api.OK || !s.Has(x) {
					t.Errorf("Value of %s: %s, %d, not in %v", budgetText(b), x.Text(), e, s)
				}
				c := b
				c.Terms = slices.Clone(b.Terms)
				for i, x := range c.Terms {
					c.Terms[i].Value = x.Value.Add(x.Half.Mul(fraction(d.below(9)-4, 4)))
				}
				x, e = budget.Value(c, name)
				if e != api.OK || !s.Has(x) {
					t.Errorf("Value of %s: %s, %d, not in %v", budgetText(c), x.Text(), e, s)
				}
			}
		}
	}
	if exist < 300 {
		t.Errorf("%d of 900 exist", exist)
	}
}

func shareText(l []budget.Share) string {
	var words []string
	for _, x := range l {
		words = append(words, x.Term, x.Slope.Text(), x.Variance.Text())
	}
	return strings.Join(words, " ")
}

func TestShares(t *testing.T) {
	const results = "result p = a * b\nresult q = p - 2 * a\nresult k = 7\nresult m = -(p / q) / (a + 2)\n"
	for _, c := range []struct{ name, shares, without, with string }{
		{"p", "a 2 1/3 b 1 1/4", "7/12", "59/60"},
		{"k", "a 0 0 b 0 0", "0", "0"},
		{"q", "a 0 0 b 1 1/4", "1/4", "1/4"},
	} {
		for link, want := range map[string]string{"": c.without, "link a b 1/10\n": c.with} {
			b := read(t, pair+link+results)
			l, e := budget.Shares(b, c.name)
			if shareText(l) != c.shares || e != api.OK {
				t.Errorf("Shares of %s: %s, %d, want %s", c.name, shareText(l), e, c.shares)
			}
			x, e := budget.Combined(b, c.name)
			is(t, "Combined of "+c.name, x, e, want)
		}
	}
	b := read(t, pair+results)
	x, e := budget.Combined(b, "m")
	code(t, "Combined of m", !x.Clear(), e, api.ErrZero)
	b = read(t, "result r = 3 - 1")
	l, e := budget.Shares(b, "r")
	x, f := budget.Combined(b, "r")
	if len(l) != 0 || e != api.OK || x.Clear() || f != api.OK {
		t.Errorf("without terms: %v, %d, %s, %d", l, e, x.Text(), f)
	}
	b = read(t, "term a 3 0 rectangle\nterm b 0 1 normal 1/2\nresult r = b / a - a\n")
	l, e = budget.Shares(b, "r")
	if want := "a -1 0 b 1/3 4/9"; shareText(l) != want || e != api.OK {
		t.Errorf("Shares: %s, %d, want %s", shareText(l), e, want)
	}
}

// slopeOf is the chapter's slope of a quantity by a term: derivatives are expressions, which are evaluated.
func slopeOf(t testing.TB, b budget.Budget, name, term string) (num.Num, bool) {
	t.Helper()
	var names []string
	var values []num.Num
	slopes := map[string]num.Num{}
	for _, x := range b.Terms {
		names, values = append(names, x.Name), append(values, x.Value)
		slopes[x.Name] = num.Num{}
	}
	slopes[term] = num.Int(1)
	for _, r := range b.Results {
		var sum num.Num
		for _, n := range names {
			d, e := budget.Derive(r.Expr, n)
			if e != api.OK {
				t.Fatalf("Derive: %d", e)
			}
			v, e := budget.Evaluate(d, names, values)
			if e != api.OK {
				return num.Num{}, false
			}
			sum = sum.Add(v.Mul(slopes[n]))
		}
		if r.Name == name {
			return sum, true
		}
		v, e := budget.Evaluate(r.Expr, names, values)
		if e != api.OK {
			return num.Num{}, false
		}
		slopes[r.Name] = sum
		names, values = append(names, r.Name), append(values, v)
	}
	return num.Num{}, false
}

// TestSlopes compares the slopes with the chapter's derivatives, and the variance with the form of the covariances.
func TestSlopes(t *testing.T) {
	d := dice(21)
	exist := 0
	for range 200 {
		b := d.budget(3, 4)
		l, e := budget.Shares(b, "r3")
		if e != api.OK {
			code(t, "Shares", len(l) == 0, e, api.ErrZero)
			continue
		}
		var slopes []num.Num
		for i, x := range b.Terms {
			s, ok := slopeOf(t, b, "r3", x.Name)
			v, _ := budget.Variance(x)
			if !ok || l[i].Term != x.Name || !l[i].Slope.Same(s) || !l[i].Variance.Same(v.Mul(s.Mul(s))) {
				t.Errorf("Shares of %s: %s, want %s, %v", budgetText(b), shareText(l), s.Text(), ok)
			}
			slopes = append(slopes, s)
		}
		want, _ := num.Form(covariances(b), slopes)
		x, e := budget.Combined(b, "r3")
		is(t, "Combined", x, e, want.Text())
		exist++
	}
	if exist < 50 {
		t.Errorf("%d of 200 exist", exist)
	}
}

// covariances returns the matrix of all covariances.
func covariances(b budget.Budget) [][]num.Num {
	m := make([][]num.Num, len(b.Terms))
	for i, x := range b.Terms {
		m[i] = make([]num.Num, len(b.Terms))
		m[i][i], _ = budget.Variance(x)
		for k, y := range b.Terms {
			for _, l := range b.Links {
				if l.A == x.Name && l.B == y.Name || l.B == x.Name && l.A == y.Name {
					m[i][k] = l.Covariance
				}
			}
		}
	}
	return m
}

// combined returns Combined of a result that has to exist.
func combined(t testing.TB, b budget.Budget, name string) num.Num {
	t.Helper()
	x, e := budget.Combined(b, name)
	if e != api.OK {
		t.Fatalf("Combined of %s: %d", budgetText(b), e)
	}
	return x
}

// TestVariances is P9.5.
func TestVariances(t *testing.T) {
	d := dice(22)
	exist := 0
	for range 200 {
		b := d.budget(4, 3)
		if _, e := budget.Value(b, "r2"); e != api.OK {
			continue
		}
		exist++
		x := combined(t, b, "r2")
		if x.Cmp(num.Num{}) < 0 || !x.Real() {
			t.Errorf("Combined of %s: %s", budgetText(b), x.Text())
		}
		other := budget.Budget{Terms: shuffled(&d, b.Terms), Links: shuffled(&d, b.Links), Results: b.Results}
		if y := combined(t, other, "r2"); !y.Same(x) {
			t.Errorf("Combined in another order: %s, want %s", y.Text(), x.Text())
		}
		k := d.positive()
		other = budget.Budget{Terms: slices.Clone(b.Terms), Links: slices.Clone(b.Links), Results: b.Results}
		for i := range other.Terms {
			other.Terms[i].Half = other.Terms[i].Half.Mul(k)
		}
		for i := range other.Links {
			other.Links[i].Covariance = other.Links[i].Covariance.Mul(k).Mul(k)
		}
		if y := combined(t, other, "r2"); !y.Same(x.Mul(k).Mul(k)) {
			t.Errorf("Combined, with factors: %s, want %s times the square of %s", y.Text(), x.Text(), k.Text())
		}
		other = budget.Budget{Terms: b.Terms, Results: b.Results}
		var sum num.Num
		l, _ := budget.Shares(other, "r2")
		for _, s := range l {
			sum = sum.Add(s.Variance)
		}
		if y := combined(t, other, "r2"); !y.Same(sum) {
			t.Errorf("Combined without links: %s, want %s", y.Text(), sum.Text())
		}
		m := covariances(b)
		other = budget.Budget{Terms: b.Terms, Links: b.Links, Results: []budget.Result{{Name: "s", Expr: tree(t, "t1+t3")}}}
		want := m[1][1].Add(m[3][3]).Add(num.Int(2).Mul(m[1][3]))
		if y := combined(t, other, "s"); !y.Same(want) {
			t.Errorf("Combined of a sum: %s, want %s", y.Text(), want.Text())
		}
	}
	if exist < 80 {
		t.Errorf("%d of 200 exist", exist)
	}
}

func TestExpanded(t *testing.T) {
	b := read(t, "term x 1 2 normal 1\nterm y 1/3 1 rectangle\nterm z 5 0 triangle\nresult a = x\nresult b = y\nresult c = z\nresult d = z + y - y\n")
	for _, c := range []struct {
		name, factor string
		lo, hi       float64
	}{{"a", "2", -3, 5}, {"a", "1", -1, 3}, {"a", "0", 1, 1}, {"a", "1/2", 0, 2}, {"c", "9", 5, 5}, {"d", "9", 5, 5}} {
		s, e := budget.Expanded(b, c.name, parse(t, c.factor))
		isSpan(t, "Expanded of "+c.name+" by "+c.factor, s, e, c.lo, c.hi)
	}
	for _, factor := range []string{"-1", "-1/1000", "1i", "1+1i", "-1i"} {
		s, e := budget.Expanded(b, "a", parse(t, factor))
		code(t, "Expanded by "+factor, noSpan(s), e, api.ErrArg)
	}
	huge := parse(t, "1e400")
	s, e := budget.Expanded(b, "a", huge)
	isSpan(t, "Expanded by a great factor", s, e, math.Inf(-1), math.Inf(1))
	s, e = budget.Expanded(b, "c", huge)
	isSpan(t, "Expanded by a great factor of what is certain", s, e, 5, 5)
	b = read(t, "term x 1e400 0 rectangle\nterm y -1e400 1 rectangle\nresult a = x\nresult b = y\n")
	s, e = budget.Expanded(b, "a", num.Int(1))
	isSpan(t, "Expanded of a great value", s, e, math.MaxFloat64, math.Inf(1))
	s, e = budget.Expanded(b, "b", num.Int(1))
	isSpan(t, "Expanded of a value far below 0", s, e, math.Inf(-1), math.Nextafter(-math.MaxFloat64, 0))
}

// TestExpandedAll looks at squares of the distances of the ends, without roots.
func TestExpandedAll(t *testing.T) {
	d := dice(23)
	exist := 0
	for range 300 {
		b, factor := d.budget(3, 2), d.positive()
		value, e := budget.Value(b, "r1")
		if e != api.OK {
			continue
		}
		exist++
		s, e := budget.Expanded(b, "r1", factor)
		lo, hi := s.Ends()
		square := rat(combined(t, b, "r1").Mul(factor).Mul(factor))
		near, far := false, false
		for _, end := range []float64{lo, hi} {
			r := newRat().SetFloat64(end)
			r.Sub(r, rat(value))
			r.Mul(r, r)
			near = near || r.Cmp(square) < 0
			// A few roundings move an end by less than a billionth of what it is made of.
			bound := newRat().Mul(square, big.NewRat(1000001, 1000000))
			slack := newRat().SetFloat64(1e-18 * (1 + math.Abs(value.Below()) + math.Abs(value.Above())))
			far = far || r.Cmp(bound.Add(bound, slack)) > 0
		}
		if e != api.OK || near || far || !s.Has(value) {
			t.Errorf("Expanded of %s by %s: %v, %d, for the value %s and the square %s", budgetText(b), factor.Text(), s, e, value.Text(), square.RatString())
		}
		v, c := around(value), around(combined(t, b, "r1"))
		root, _ := c.Sqrt()
		h := around(factor).Mul(root)
		below, _ := v.Sub(h).Ends()
		_, above := v.Add(h).Ends()
		isSpan(t, "Expanded", s, e, below, above)
	}
	if exist < 100 {
		t.Errorf("%d of 300 exist", exist)
	}
}

// TestManyResults has results that use those ahead twice: going through all ways to a term would take too long.
func TestManyResults(t *testing.T) {
	text := pair + "result r0 = a + b\n"
	for i := 1; i < 32; i++ {
		s := "r" + strconv.Itoa(i-1)
		text += "result r" + strconv.Itoa(i) + " = " + s + " + " + s + "\n"
	}
	b := read(t, text)
	x, e := budget.Value(b, "r31")
	is(t, "Value", x, e, "6442450944")
	l, e := budget.Shares(b, "r31")
	if e != api.OK || len(l) != 2 || l[1].Slope.Text() != "2147483648" {
		t.Errorf("Shares: %s, %d", shareText(l), e)
	}
}

// TestAllLinks has as many terms and links as there can be.
func TestAllLinks(t *testing.T) {
	var b budget.Budget
	sum := ""
	for i := range 32 {
		name := "t" + strconv.Itoa(i)
		b.Terms = append(b.Terms, budget.Term{Name: name, Half: num.Int(1), Factor: num.Int(1)})
		for _, x := range b.Terms[:i] {
			b.Links = append(b.Links, budget.Link{A: name, B: x.Name, Covariance: fraction(1, 2)})
		}
		sum += "+" + name
	}
	b.Results = []budget.Result{{Name: "s", Expr: tree(t, sum[1:])}}
	x, e := budget.Combined(b, "s")
	is(t, "Combined", x, e, "528")
	for i := range b.Links {
		b.Links[i].Covariance = fraction(-1, 31)
	}
	x, e = budget.Combined(b, "s")
	is(t, "Combined", x, e, "0")
	b.Links[7].Covariance = fraction(-1, 30)
	x, e = budget.Combined(b, "s")
	code(t, "Combined", !x.Clear(), e, api.ErrLink)
}
