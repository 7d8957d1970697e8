package budget_test

import (
	"math/big"
	"strconv"
	"strings"
	"testing"

	"waveport/api"
	"waveport/budget"
	"waveport/num"
)

// entries returns the entries with a text: a value and a variance for each of A, B, C ..
func entries(t testing.TB, text string) []budget.Entry {
	t.Helper()
	var l []budget.Entry
	for i, x := range strings.Split(text, ",") {
		n := list(t, x)
		l = append(l, budget.Entry{Laboratory: string(rune('A' + i)), Value: n[0], Variance: n[1]})
	}
	return l
}

func entryText(l []budget.Entry) string {
	var words []string
	for _, x := range l {
		words = append(words, x.Laboratory, x.Value.Text(), x.Variance.Text())
	}
	return strings.Join(words, " ")
}

// laboratories returns the names of entries.
func laboratories(l []budget.Entry) string {
	text := ""
	for _, x := range l {
		text += x.Laboratory
	}
	return text
}

func TestReference(t *testing.T) {
	for _, c := range []struct{ entries, mean, variance string }{
		{"1 1,4 2", "2", "2/3"}, {"1 1,1 1", "1", "1/2"}, {"-1 1/2,1 1/2,3 1", "3/5", "1/5"}, {"0 1,0 1,0 1,0 1", "0", "1/4"}, {"1/3 1/7,1/3 5", "1/3", "5/36"},
	} {
		m, v, e := budget.Reference(entries(t, c.entries))
		is(t, "the mean of "+c.entries, m, e, c.mean)
		is(t, "its variance, of "+c.entries, v, e, c.variance)
	}
}

func TestScores(t *testing.T) {
	for _, c := range []struct{ entries, factor, want string }{
		{"1 1,4 2", "2", "3/4 3/4"}, {"1 1,4 2", "1", "3 3"}, {"1 1,1 5", "1/9", "0 0"}, {"0 1,100 1,0 1", "2", "1250/3 5000/3 1250/3"},
	} {
		s, e := budget.Scores(entries(t, c.entries), parse(t, c.factor))
		if listText(s) != c.want || e != api.OK {
			t.Errorf("Scores of %s: %s, %d, want %s", c.entries, listText(s), e, c.want)
		}
	}
}

func TestConsistent(t *testing.T) {
	for _, c := range []struct {
		entries, factor, want string
		e                     api.Errno
	}{
		{"1 1,4 2", "2", "AB", api.OK}, {"1 1,4 2", "1", "", api.ErrNone}, {"0 1,100 1,0 1", "2", "AC", api.OK}, {"100 1,0 1,0 1", "2", "BC", api.OK}, {"0 1,0 1,100 1", "2", "AB", api.OK},
		{"0 1,2 1", "1", "", api.ErrNone}, {"0 1,1 1", "1", "AB", api.OK}, {"0 1,1.4142 1", "1", "AB", api.OK}, {"0 1,1.4143 1", "1", "", api.ErrNone}, {"0 1,3 7/2,0 1", "3/2", "ABC", api.OK}, {"0 1,2 2", "1", "", api.ErrNone}, {"0 2,2 2", "1", "AB", api.OK},
		{"0 1,9 1,9 1,0 1", "1", "BC", api.OK}, {"9 1,0 1,9 1,0 1", "1", "BD", api.OK}, {"0 1,0 1,50 1,-70 1,1/2 1", "2", "ABE", api.OK}, {"0 1,10 1,20 1,30 1", "1", "", api.ErrNone}, {"-5 1,0 1,5 1", "1", "", api.ErrNone},
	} {
		l, e := budget.Consistent(entries(t, c.entries), parse(t, c.factor))
		if laboratories(l) != c.want || e != c.e || e != api.OK && len(l) > 0 {
			t.Errorf("Consistent of %s by %s: %s, %d, want %s, %d", c.entries, c.factor, laboratories(l), e, c.want, c.e)
		}
	}
}

// TestEntryErrors looks at the errors of all three functions.
func TestEntryErrors(t *testing.T) {
	many := func(n int) []budget.Entry {
		var l []budget.Entry
		for i := range n {
			l = append(l, budget.Entry{Laboratory: "L" + strconv.Itoa(i), Value: num.Int(1), Variance: num.Int(2)})
		}
		return l
	}
	changed := func(change func(l []budget.Entry)) []budget.Entry {
		l := many(4)
		change(l)
		return l
	}
	i := parse(t, "1i")
	for k, c := range []struct {
		l    []budget.Entry
		want api.Errno
	}{
		{nil, api.ErrSize}, {[]budget.Entry{}, api.ErrSize}, {many(1), api.ErrSize}, {make([]budget.Entry, 1), api.ErrSize}, {many(2), api.OK}, {many(32), api.OK}, {many(33), api.ErrSize}, {make([]budget.Entry, 33), api.ErrSize}, {make([]budget.Entry, 2), api.ErrArg},
		{changed(func(l []budget.Entry) { l[2].Laboratory = "" }), api.ErrArg},
		{changed(func(l []budget.Entry) { l[2].Laboratory = "a b" }), api.ErrArg},
		{changed(func(l []budget.Entry) { l[2].Laboratory = "1" }), api.ErrArg},
		{changed(func(l []budget.Entry) { l[2].Laboratory = strings.Repeat("a", 25) }), api.ErrArg},
		{changed(func(l []budget.Entry) { l[2].Laboratory = strings.Repeat("a", 24) }), api.OK},
		{changed(func(l []budget.Entry) { l[2].Laboratory = "l0" }), api.OK},
		{changed(func(l []budget.Entry) { l[2].Laboratory = "L0" }), api.ErrTwice},
		{changed(func(l []budget.Entry) { l[3].Value = i }), api.ErrArg},
		{changed(func(l []budget.Entry) { l[3].Value = num.Int(-9) }), api.OK},
		{changed(func(l []budget.Entry) { l[0].Variance = i }), api.ErrArg},
		{changed(func(l []budget.Entry) { l[0].Variance = i.Add(num.Int(1)) }), api.ErrArg},
		{changed(func(l []budget.Entry) { l[0].Variance = num.Num{} }), api.ErrArg},
		{changed(func(l []budget.Entry) { l[0].Variance = num.Int(-1) }), api.ErrArg},
		{changed(func(l []budget.Entry) { l[2].Laboratory, l[2].Value = "L0", i }), api.ErrArg},
		{changed(func(l []budget.Entry) { l[2].Laboratory, l[3].Value = "L0", i }), api.ErrTwice},
		{changed(func(l []budget.Entry) { l[3].Laboratory, l[2].Value = "L0", i }), api.ErrArg},
	} {
		what := ", case " + strconv.Itoa(k)
		m, v, e := budget.Reference(c.l)
		code(t, "Reference"+what, !m.Clear() && !v.Clear(), e, c.want)
		for _, factor := range []string{"3", "0", "-1", "1i", "1+1i"} {
			want := c.want
			if want == api.OK && factor != "3" {
				want = api.ErrArg
			}
			s, e := budget.Scores(c.l, parse(t, factor))
			code(t, "Scores by "+factor+what, len(s) == 0, e, want)
			if want == api.OK && len(s) != len(c.l) {
				t.Errorf("Scores%s: %d", what, len(s))
			}
			if want != api.OK {
				r, e := budget.Consistent(c.l, parse(t, factor))
				code(t, "Consistent by "+factor+what, len(r) == 0, e, want)
			}
		}
	}
}

// entries returns some entries, most of which agree.
func (d *dice) entries(n int) []budget.Entry {
	var l []budget.Entry
	for i := range n {
		x := budget.Entry{Laboratory: "L" + strconv.Itoa(i), Value: fraction(d.below(40), 10), Variance: d.positive()}
		if d.below(4) == 0 {
			x.Value = fraction(d.below(9)*20-80, 1)
		}
		l = append(l, x)
	}
	return l
}

// scoresOf computes scores with fractions of Go's library.
func scoresOf(l []budget.Entry, factor num.Num) (mean, variance *big.Rat, scores []*big.Rat) {
	mean, weights := newRat(), newRat()
	for _, x := range l {
		w := newRat().Inv(rat(x.Variance))
		weights.Add(weights, w)
		mean.Add(mean, w.Mul(w, rat(x.Value)))
	}
	mean.Quo(mean, weights)
	variance = newRat().Inv(weights)
	for _, x := range l {
		s := newRat().Sub(rat(x.Value), mean)
		s.Quo(s, rat(factor))
		scores = append(scores, s.Quo(s.Mul(s, s), newRat().Sub(rat(x.Variance), variance)))
	}
	return mean, variance, scores
}

// consistentOf is the search of Consistent, with fractions of Go's library.
func consistentOf(l []budget.Entry, factor num.Num) ([]budget.Entry, bool) {
	_, _, scores := scoresOf(l, factor)
	worst := 0
	for i, s := range scores {
		if s.Cmp(scores[worst]) > 0 {
			worst = i
		}
	}
	switch {
	case scores[worst].Cmp(big.NewRat(1, 1)) <= 0:
		return l, true
	case len(l) == 2:
		return nil, false
	}
	var rest []budget.Entry
	for i, x := range l {
		if i != worst {
			rest = append(rest, x)
		}
	}
	return consistentOf(rest, factor)
}

// TestLaboratories is P9.7, and compares with fractions of Go's library.
func TestLaboratories(t *testing.T) {
	d := dice(40)
	counts := map[api.Errno]int{}
	removed := 0
	for range 300 {
		l, factor := d.entries(2+d.below(7)), d.positive()
		mean, variance, scores := scoresOf(l, factor)
		m, v, e := budget.Reference(l)
		is(t, "Reference", m, e, number(mean).Text())
		is(t, "the variance of Reference", v, e, number(variance).Text())
		for _, x := range l {
			if v.Cmp(x.Variance) >= 0 {
				t.Errorf("the reference of %s has the variance %s", entryText(l), v.Text())
			}
		}
		m2, v2, e := budget.Reference(shuffled(&d, l))
		is(t, "Reference in another order", m2, e, m.Text())
		is(t, "its variance", v2, e, v.Text())
		s, e := budget.Scores(l, factor)
		for i, x := range scores {
			is(t, "a score of "+entryText(l), s[i], e, number(x).Text())
		}
		s, e = budget.Scores(l[:2], factor)
		is(t, "a score of two", s[0], e, s[1].Text())
		rest, e := budget.Consistent(l, factor)
		counts[e]++
		want, ok := consistentOf(l, factor)
		if entryText(rest) != entryText(want) || ok != (e == api.OK) || !ok && e != api.ErrNone {
			t.Errorf("Consistent of %s: %s, %d, want %s", entryText(l), entryText(rest), e, entryText(want))
		}
		if e != api.OK {
			continue
		}
		removed += len(l) - len(rest)
		s, e = budget.Scores(rest, factor)
		for _, x := range s {
			if e != api.OK || x.Cmp(num.Int(1)) > 0 {
				t.Errorf("Consistent of %s: %s, with the score %s", entryText(l), entryText(rest), x.Text())
			}
		}
	}
	if counts[api.OK] < 50 || counts[api.ErrNone] < 10 || removed < 50 {
		t.Errorf("%v, %d removed", counts, removed)
	}
}
