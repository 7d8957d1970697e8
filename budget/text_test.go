package budget_test

import (
	"strconv"
	"strings"
	"testing"

	"waveport/api"
	"waveport/budget"
	"waveport/num"
)

const demo = "term a 1 1/2 rectangle\nterm b_2 -2/3 1 normal 3/2\nterm Cc 5 0 triangle\nterm d 0 7/4 arcsine\nlink a b_2 1/10\nlink d a -1/7\nresult p = -(a + 2) * b_2 / (Cc - 1)\nresult q = p - (d - a) - --d\nresult r = 12\n"

// demoBudget returns the budget with the text demo.
func demoBudget(t testing.TB) budget.Budget {
	n := func(s string) num.Num { return parse(t, s) }
	return budget.Budget{
		Terms: []budget.Term{
			{Name: "a", Value: n("1"), Half: n("1/2"), Shape: budget.Rectangle},
			{Name: "b_2", Value: n("-2/3"), Half: n("1"), Shape: budget.Normal, Factor: n("3/2")},
			{Name: "Cc", Value: n("5"), Shape: budget.Triangle},
			{Name: "d", Half: n("7/4"), Shape: budget.Arcsine},
		},
		Links:   []budget.Link{{A: "a", B: "b_2", Covariance: n("1/10")}, {A: "d", B: "a", Covariance: n("-1/7")}},
		Results: []budget.Result{{Name: "p", Expr: tree(t, "((-(a+2))*b_2)/(Cc-1)")}, {Name: "q", Expr: tree(t, "(p-(d-a))-(-(-d))")}, {Name: "r", Expr: tree(t, "12")}},
	}
}

// parses tests that a text is that of a budget.
func parses(t testing.TB, what, text string, want budget.Budget) {
	t.Helper()
	b, line, e := budget.Parse(text)
	if e != api.OK || line != 0 || budgetText(b) != budgetText(want) {
		t.Errorf("%s: %s, line %d, %d, want %s", what, budgetText(b), line, e, budgetText(want))
	}
}

// prints tests the text of a budget.
func prints(t testing.TB, what string, b budget.Budget, want string) {
	t.Helper()
	s, e := budget.Print(b)
	if s != want || e != api.OK {
		t.Errorf("%s: %q, %d, want %q", what, s, e, want)
	}
}

func TestText(t *testing.T) {
	b := demoBudget(t)
	prints(t, "demo", b, demo)
	parses(t, "demo", demo, b)
	parses(t, "without the last line feed", strings.TrimSuffix(demo, "\n"), b)
	parses(t, "empty lines", "\n\n"+strings.ReplaceAll(demo, "\n", "\n\n")+"\n", b)
	parses(t, "remarks", "# term\n"+strings.ReplaceAll(demo, "\n", "\n#term a 1 1 rectangle\n# \n"), b)
	parses(t, "a remark at the end", demo+"#", b)
	other := "term a 1.0 0.50 rectangle\nterm b_2 -4/6 1e0 normal 150e-2\nterm Cc 5 -0 triangle\nterm d 0 1.75 arcsine\nlink a b_2 1e-1\nlink d a -1/7\nresult p =    -  (a+2 )*b_2/( Cc-1)  \nresult q = ((p-(d-a)))---d\nresult r = (12)\n"
	parses(t, "other forms", other, b)
	for _, s := range []string{"", "\n", "#", "\n#\n\n"} {
		parses(t, "nothing", s, budget.Budget{})
	}
	prints(t, "nothing", budget.Budget{}, "")
	words := "term term 1 1 rectangle\nterm link 1 1 normal 1\nlink term link 1/10\nresult result = term + link\nresult normal = result\n"
	prints(t, "words as names", read(t, words), words)
}

// TestExpressionTexts compares expressions with those of Go's parser.
func TestExpressionTexts(t *testing.T) {
	const head = "term a 1 1 rectangle\nterm b 1 1 rectangle\nterm c 1 1 rectangle\nterm d_ 1 1 rectangle\n"
	for _, c := range []struct{ text, want string }{
		{"a", "a"}, {"0", "0"}, {"7", "7"}, {"1020", "1020"}, {"d_", "d_"},
		{"-a*b", "-a * b"}, {"a-b-c", "a - b - c"}, {"a-(b-c)", "a - (b - c)"}, {"a+(b+c)", "a + (b + c)"}, {"(a+b)+c", "a + b + c"},
		{"a/b/c", "a / b / c"}, {"a/(b/c)", "a / (b / c)"}, {"a*(b/c)", "a * (b / c)"}, {"(a*b)/c", "a * b / c"}, {"a/b*c", "a / b * c"}, {"a*(b*c)", "a * (b * c)"},
		{"a+b*c", "a + b * c"}, {"(a+b)*c", "(a + b) * c"}, {"a*b+c", "a * b + c"}, {"a*(b+c)", "a * (b + c)"}, {"a-b/c", "a - b / c"}, {"(a-b)/c", "(a - b) / c"}, {"a/(b-c)", "a / (b - c)"},
		{"-(a+b)", "-(a + b)"}, {"-a+b", "-a + b"}, {"-(a*b)", "-(a * b)"}, {"-(a/b)", "-(a / b)"}, {"--a", "--a"}, {"-(-(a))", "--a"}, {"-1", "-1"}, {"a--b", "a - -b"}, {"a+-b", "a + -b"}, {"a*-b", "a * -b"}, {"a/--b", "a / --b"}, {"-(a-b)-c", "-(a - b) - c"}, {"---0", "---0"},
		{"((a))", "a"}, {"(((a)+((b))))", "a + b"}, {"(-(a))*(b)", "-a * b"}, {"a-(-b)", "a - -b"},
		{"  a  ", "a"}, {" ( a ) ", "a"}, {"( ( a + b ) * ( c ) )", "(a + b) * c"}, {" - - a", "--a"}, {"a  *b /c", "a * b / c"}, {"1 +2- 3", "1 + 2 - 3"}, {"a+ b *- c", "a + b * -c"}, {"(a )/( b)", "a / b"},
	} {
		b, line, e := budget.Parse(head + "result r = " + c.text)
		if e != api.OK || line != 0 || len(b.Results) != 1 || treeText(b.Results[0].Expr) != treeText(tree(t, c.text)) {
			t.Errorf("%q: %s, line %d, %d", c.text, budgetText(b), line, e)
			continue
		}
		prints(t, c.text, b, head+"result r = "+c.want+"\n")
	}
}

func TestMalformedLines(t *testing.T) {
	const head = "term a 1 1/2 rectangle\nterm b 2 1 normal 2\n"
	for _, c := range []struct {
		text string
		line int
	}{
		{" ", 1}, {"term", 1}, {"term ", 1}, {"term a", 1}, {"term a 1", 1}, {"term a 1 1", 1}, {"term a 1 1 ", 1}, {"term a 1 1 normal", 1}, {"term a 1 1 normal ", 1}, {"term a 1 1 normal 1 ", 1}, {"term a 1 1 normal 1 1", 1},
		{"term a 1 1 rectangle 1", 1}, {"term a 1 1 rectangle ", 1}, {" term a 1 1 rectangle", 1}, {"term  a 1 1 rectangle", 1}, {"term  1 1 rectangle", 1}, {"term a 1 1  rectangle", 1}, {"term a 1 1 Rectangle", 1}, {"term a 1 1 rect", 1}, {"term a 1 1 rectangle\r\n", 1}, {"term\ta 1 1 rectangle", 1},
		{"term a 1 1 triangle 0", 1}, {"term a 1 1 arcsine 1", 1}, {"term a 1 rectangle", 1}, {"term a 1 1 1 rectangle", 1}, {"term a x 1 rectangle", 1}, {"term a 1 +1 rectangle", 1}, {"term a 1 1/0 rectangle", 1}, {"term a 1 1 normal 1/0", 1}, {"term a 1 1 normal x", 1}, {"term a 01 1 rectangle", 1}, {"term a .5 1 rectangle", 1}, {"term a 1e401 1 rectangle", 1},
		{"Term a 1 1 rectangle", 1}, {"terms a 1 1 rectangle", 1}, {"x", 1}, {"= a", 1}, {"\xff", 1}, {"\x00", 1}, {head + " # no remark", 3}, {head + "\r\n", 3}, {head + "\n\n \n", 5},
		{"term a 1 1 rectangle\nterm b " + strings.Repeat("1", 4097) + " 0 triangle", 2},
		{head + "link", 3}, {head + "link a", 3}, {head + "link a b", 3}, {head + "link a b ", 3}, {head + "link a b x", 3}, {head + "link a b 1/0", 3}, {head + "link a b 0 0", 3}, {head + "link a b 0 ", 3}, {head + "link a  b 0", 3}, {head + "link  b 0", 3}, {head + "links a b 0", 3},
		{head + "link a b 0\nterm c 1 1 rectangle", 4}, {head + "result r = a\nterm c 1 1 rectangle", 4}, {head + "result r = a\nlink a b 0", 4}, {head + "link a b 0\n#\nresult r = a\nlink a b 0", 6}, {head + "link x y 9\nterm c", 4}, {"result r = 1\nterm a 1 1 rectangle", 2}, {"result r = 1\nresult s = 1\nlink a b 0", 3},
		{head + "result", 3}, {head + "result r", 3}, {head + "result r =", 3}, {head + "result r = ", 3}, {head + "result r =  ", 3}, {head + "result r a", 3}, {head + "result r =a", 3}, {head + "result r= a", 3}, {head + "result r=a", 3}, {head + "result  r = a", 3}, {head + "result r  = a", 3}, {head + "result  = a", 3}, {head + "result = a", 3}, {head + " result r = a", 3}, {head + "result r == a", 3}, {head + "result r = = a", 3}, {head + "results r = a", 3}, {head + "result r\t= a", 3}, {head + "result r := a", 3},
		{"result r = 1\nresult s = 1 +\nresult t = +", 2}, {"result r = 1\nresult q = 2 3\nterm a 1 1 rectangle", 2},
	} {
		b, line, e := budget.Parse(c.text)
		if line != c.line || e != api.ErrForm || !noBudget(b) {
			t.Errorf("Parse(%.60q): %s, line %d, %d, want %d", c.text, budgetText(b), line, e, c.line)
		}
	}
}

func TestMalformedExpressions(t *testing.T) {
	for _, s := range []string{
		"+a", "a+", "a +", "a b", "a 1", "1 2", "1 a", "a++b", "a**b", "a*/b", "a//b", "*a", "/a", "-", "--", "a-", "()", "( )", "(a", "a)", "((a)", "(a))", "(a b)", "a(b)", "(a)(b)", "2(a)", "(a)2", "-()", "a+()", ")a(", ")",
		"01", "00", "-01", "2a", "2_", "0a", "0_", "0x1", "1e2", "1.5", ".5", "1.", "1/2.5", "1i", "_a", "_", "a.b", "a'", "a^2", "a%b", "a=b", "a,b", "[a]", "{a}", "a!", "a&b", "a;", "#a", "a#",
		"a\t", "\ta", "a\t+ b", "a\r", "a+\r b", "a\x00", "\x00a", "\x00", "a+\x00b", "a\xffb", "é", "aé", "١", "a −b", "a\u00a0",
		strings.Repeat("n", 25), "a+" + strings.Repeat("n", 25), strings.Repeat("1", 4097), "a_" + strings.Repeat("_", 23),
		strings.Repeat("(", 30000) + "a" + strings.Repeat(")", 29999), strings.Repeat("-", 60000), strings.Repeat("a+", 30000),
	} {
		for _, c := range []struct {
			text string
			line int
		}{{"result r = " + s, 1}, {"\nterm a 1 1 rectangle\nterm b 1 1 rectangle\nresult r = " + s + "\n\nresult s = )", 4}} {
			b, line, e := budget.Parse(c.text)
			if line != c.line || e != api.ErrForm || !noBudget(b) {
				t.Errorf("Parse(%.60q): %s, line %d, %d, want %d", c.text, budgetText(b), line, e, c.line)
			}
		}
	}
}

// TestReadErrors has texts with the right form, of budgets with and without an error.
func TestReadErrors(t *testing.T) {
	const head = "term a 1 1/2 rectangle\nterm b 2 1 normal 2\n"
	lines := func(n int, line string) string {
		var text strings.Builder
		for i := range n {
			text.WriteString(strings.ReplaceAll(line, "I", strconv.Itoa(i)) + "\n")
		}
		return text.String()
	}
	long := strings.Repeat("n", 24)
	for _, c := range []struct {
		text string
		want api.Errno
	}{
		{"term " + long + " 1 1 rectangle\nresult r = " + long, api.OK}, {"term " + long + "n 1 1 rectangle", api.ErrArg}, {"term 1a 1 1 rectangle", api.ErrArg}, {"term # 1 1 rectangle", api.ErrArg}, {"term a\t 1 1 rectangle", api.ErrArg}, {"term \xff 1 1 rectangle", api.ErrArg}, {"term a\r 1 1 rectangle", api.ErrArg}, {"term _a 1 1 rectangle", api.ErrArg}, {"term a-b 1 1 rectangle", api.ErrArg},
		{"term a 1i 1 rectangle", api.ErrArg}, {"term a 1 1i rectangle", api.ErrArg}, {"term a 1 -1 rectangle", api.ErrArg}, {"term a 1 1 normal 0", api.ErrArg}, {"term a 1 1 normal -1", api.ErrArg}, {"term a 1 1 normal 1+1i", api.ErrArg}, {"term a 1+0i 1 normal 1", api.OK},
		{head + "term a 1 1 rectangle", api.ErrTwice}, {head + "term A 1 1 rectangle", api.OK}, {head + "term a 1 -1 rectangle", api.ErrArg},
		{head + "link a c 0", api.ErrNone}, {head + "link c a 0", api.ErrNone}, {head + "link a a 0", api.ErrArg}, {head + "link a b 1i", api.ErrArg}, {head + "link a b 0\nlink a b 0", api.ErrTwice}, {head + "link a b 0\nlink b a 0", api.ErrTwice}, {head + "link a = 0", api.ErrNone},
		{head + "link a b 1/5", api.ErrLink}, {head + "link a b 1/7", api.OK}, {head + "link a b -1/6", api.ErrLink},
		{"result r = a", api.ErrNone}, {"result r = r", api.ErrNone}, {"result r = s\nresult s = 1", api.ErrNone}, {"result s = 1\nresult r = s", api.OK}, {"result s = 1\nresult s = 1", api.ErrTwice}, {head + "result b = 1", api.ErrTwice}, {"result 1 = 1", api.ErrArg}, {"result = = 1", api.ErrArg}, {"result a=b = 1", api.ErrArg}, {"result " + long + "n = 1", api.ErrArg}, {"result " + long + " = 1", api.OK}, {"result r\xff = 1", api.ErrArg},
		{"result r = 1/0", api.OK}, {"result r = " + strings.Repeat("1", 4096), api.OK},
		{"result r = 1" + strings.Repeat("-1", 199), api.OK}, {"result r = -1" + strings.Repeat("-1", 199), api.OK}, {"result r = --1" + strings.Repeat("-1", 199), api.ErrSize}, {"result r = 1" + strings.Repeat("-1", 30000), api.ErrSize}, {"result r = " + strings.Repeat("-", 60000) + "1", api.ErrSize}, {"result r = " + strings.Repeat("-", 399) + "1", api.OK},
		{"result r = " + strings.Repeat("(", 32000) + "1" + strings.Repeat(")", 32000), api.OK},
		{lines(32, "term tI 1 1 rectangle"), api.OK}, {lines(33, "term tI 1 1 rectangle"), api.ErrSize}, {lines(33, "term t 1 -1 rectangle"), api.ErrSize},
		{lines(32, "result rI = 1"), api.OK}, {lines(33, "result rI = 1"), api.ErrSize},
		{lines(1024, "link a b 0"), api.ErrNone}, {lines(1025, "link a b 0"), api.ErrSize}, {head + lines(1024, "link a b 0"), api.ErrTwice},
	} {
		b, line, e := budget.Parse(c.text)
		if line != 0 || e != c.want || (e != api.OK) != noBudget(b) {
			t.Errorf("Parse(%.60q): %s, line %d, %d, want %d", c.text, budgetText(b), line, e, c.want)
		}
	}
}

func TestLongText(t *testing.T) {
	filled := demo + "#" + strings.Repeat("x", 65536-len(demo)-1)
	parses(t, "the longest text", filled, demoBudget(t))
	for _, s := range []string{filled + "x", "term" + filled, strings.Repeat("\n", 65537)} {
		b, line, e := budget.Parse(s)
		if line != 0 || e != api.ErrSize || !noBudget(b) {
			t.Errorf("a longer text: %s, line %d, %d", budgetText(b), line, e)
		}
	}
}

// TestTextsReturn is P9.2.
func TestTextsReturn(t *testing.T) {
	d := dice(1)
	for range 300 {
		b := d.budget(d.below(7), d.below(6))
		s, e := budget.Print(b)
		if e != api.OK {
			t.Fatalf("Print of %s: %d", budgetText(b), e)
		}
		parses(t, "the text of a budget", s, b)
	}
}

// TestNeededParentheses takes each pair of parentheses out of texts: then they are other ones.
func TestNeededParentheses(t *testing.T) {
	d := dice(2)
	pairs := 0
	for range 300 {
		b := budget.Budget{Results: []budget.Result{{Name: "r", Expr: d.expr(nil, 4)}}}
		s, e := budget.Print(b)
		if e != api.OK {
			t.Fatalf("Print: %d", e)
		}
		var open []int
		for i, c := range s {
			switch c {
			case '(':
				open = append(open, i)
			case ')':
				from := open[len(open)-1]
				open = open[:len(open)-1]
				less := read(t, s[:from]+s[from+1:i]+s[i+1:])
				if budgetText(less) == budgetText(b) {
					t.Errorf("Print: %q has needless parentheses at %d", s, from)
				}
				pairs++
			}
		}
	}
	if pairs < 200 {
		t.Errorf("%d pairs of parentheses", pairs)
	}
}

// TestChangedTexts changes bytes of a text: what is read all the same is that which its own text says, and a malformed line is the changed one, or one that depends on it.
func TestChangedTexts(t *testing.T) {
	d := dice(3)
	counts := map[api.Errno]int{}
	for range 5000 {
		b := []byte(demo)
		at := d.below(len(b))
		b[at] = []byte("0123/-+*()i #\n\rabdpt=_\xff")[d.below(23)]
		if d.below(3) == 0 {
			b = append(b[:at], b[at+1:]...)
		}
		x, line, e := budget.Parse(string(b))
		counts[e]++
		if e != api.OK {
			changed := 1 + strings.Count(demo[:at], "\n")
			if !noBudget(x) || (line != 0) != (e == api.ErrForm) || line != 0 && (line < changed || line > changed+2) {
				t.Errorf("Parse(%q): %s, line %d, %d", b, budgetText(x), line, e)
			}
			continue
		}
		s, e := budget.Print(x)
		if e != api.OK {
			t.Errorf("Print of %q: %d", b, e)
		}
		parses(t, "the text of what was read", s, x)
	}
	for _, e := range []api.Errno{api.OK, api.ErrForm, api.ErrArg, api.ErrNone} {
		if counts[e] < 100 {
			t.Errorf("%d of 5000 texts have the error %d", counts[e], e)
		}
	}
}
