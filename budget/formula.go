package budget

import "waveport/num"

// formula is the text of an expression, and a place in it up to which it has been read. It reports a malformed text by a panic.
type formula struct {
	text string
	at   int
}

// done steps over spaces, and reports whether nothing else is left.
func (f *formula) done() bool {
	for f.at < len(f.text) && f.text[f.at] == ' ' {
		f.at++
	}
	return f.at == len(f.text)
}

// take steps over a sign with the spaces in front of it, if it is the next one.
func (f *formula) take(sign byte) bool {
	if f.done() || f.text[f.at] != sign {
		return false
	}
	f.at++
	return true
}

// word reads all letters, digits and `_` that come next.
func (f *formula) word() string {
	must(!f.done())
	from := f.at
	for f.at < len(f.text) && isPart(f.text[f.at]) {
		f.at++
	}
	return f.text[from:f.at]
}

// sum reads products with the signs of sums and differences between them.
func (f *formula) sum() Expr {
	return f.chain(f.product, Sum, Difference)
}

// product reads factors with the signs of products and quotients between them.
func (f *formula) product() Expr {
	return f.chain(f.factor, Product, Quotient)
}

// chain reads operands with the signs of some kinds between them, which are joined from the first one on.
func (f *formula) chain(operand func() Expr, kinds ...int) Expr {
	x := operand()
	for {
		kind := f.kind(kinds)
		if kind < 0 {
			return x
		}
		y := operand()
		x = node(kind, x, y)
	}
}

// kind steps over the sign of one of some kinds and returns this kind, or -1.
func (f *formula) kind(kinds []int) int {
	for _, k := range kinds {
		if f.take(signOf(k)) {
			return k
		}
	}
	return -1
}

// factor reads a negative factor, an expression in parentheses, a name or a number.
func (f *formula) factor() Expr {
	if f.take('-') {
		return node(Negative, f.factor())
	}
	if f.take('(') {
		x := f.sum()
		must(f.take(')'))
		return x
	}
	w := f.word()
	if isName(w) {
		return Expr{Kind: Name, Name: w}
	}
	return Expr{Kind: Constant, Value: whole(w)}
}

// whole reads the digits of a whole number.
func whole(word string) num.Num {
	for i := range len(word) {
		must(isDigit(word[i]))
	}
	return number(word)
}
