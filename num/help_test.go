package num_test

import (
	"math/big"
	"strings"
	"testing"

	"waveport/api"
	"waveport/num"
)

// parse returns the number with a text.
func parse(t testing.TB, s string) num.Num {
	t.Helper()
	x, e := num.Parse(s)
	if e != api.OK {
		t.Fatalf("Parse(%q): %d", s, e)
	}
	return x
}

// list returns the numbers with texts that are parted by blanks.
func list(t testing.TB, s string) []num.Num {
	t.Helper()
	var out []num.Num
	for _, w := range strings.Fields(s) {
		out = append(out, parse(t, w))
	}
	return out
}

// matrix returns the matrix with a text: rows are parted by semicolons.
func matrix(t testing.TB, s string) [][]num.Num {
	t.Helper()
	var out [][]num.Num
	for _, row := range strings.Split(s, ";") {
		out = append(out, list(t, row))
	}
	return out
}

func listText(l []num.Num) string {
	var words []string
	for _, x := range l {
		words = append(words, x.Text())
	}
	return strings.Join(words, " ")
}

func matrixText(m [][]num.Num) string {
	var rows []string
	for _, l := range m {
		rows = append(rows, listText(l))
	}
	return strings.Join(rows, ";")
}

func sameMatrix(a, b [][]num.Num) bool {
	if len(a) != len(b) {
		return false
	}
	for i := range a {
		if !sameList(a[i], b[i]) {
			return false
		}
	}
	return true
}

func sameList(a, b []num.Num) bool {
	if len(a) != len(b) {
		return false
	}
	for i := range a {
		if !a[i].Same(b[i]) {
			return false
		}
	}
	return true
}

// pair is what the tests compute with instead of a Num: its parts as math/big has them.
type pair struct{ re, im *big.Rat }

func rat(n int64) *big.Rat { return new(big.Rat).SetInt64(n) }

// value returns the parts of x, read from their texts.
func value(t testing.TB, x num.Num) pair {
	t.Helper()
	re, ok := new(big.Rat).SetString(x.Re().Text())
	im, fine := new(big.Rat).SetString(x.Im().Text())
	if !ok || !fine {
		t.Fatalf("parts of %s", x.Text())
	}
	return pair{re, im}
}

// number returns the Num with the parts of p.
func number(t testing.TB, p pair) num.Num {
	t.Helper()
	return fraction(t, p.re).Add(fraction(t, p.im).Mul(parse(t, "1i")))
}

func fraction(t testing.TB, r *big.Rat) num.Num {
	t.Helper()
	x, e := whole(t, r.Num()).Div(whole(t, r.Denom()))
	if e != api.OK {
		t.Fatalf("Div: %d", e)
	}
	return x
}

// whole returns an integer of any size, put together from parts that Parse takes.
func whole(t testing.TB, n *big.Int) num.Num {
	t.Helper()
	s, negative := strings.CutPrefix(n.String(), "-")
	var x num.Num
	for len(s) > 0 {
		k := min(len(s), 400)
		digits := strings.TrimLeft(s[:k], "0")
		if digits == "" {
			digits = "0"
		}
		x = x.Mul(parse(t, "1"+strings.Repeat("0", k))).Add(parse(t, digits))
		s = s[k:]
	}
	if negative {
		return x.Neg()
	}
	return x
}

func (p pair) text() string {
	word := func(r *big.Rat) string { return r.RatString() }
	switch {
	case p.im.Sign() == 0:
		return word(p.re)
	case p.re.Sign() == 0:
		return word(p.im) + "i"
	case p.im.Sign() > 0:
		return word(p.re) + "+" + word(p.im) + "i"
	}
	return word(p.re) + word(p.im) + "i"
}

func add(a, b *big.Rat) *big.Rat { return new(big.Rat).Add(a, b) }
func sub(a, b *big.Rat) *big.Rat { return new(big.Rat).Sub(a, b) }
func mul(a, b *big.Rat) *big.Rat { return new(big.Rat).Mul(a, b) }

func (p pair) add(q pair) pair { return pair{add(p.re, q.re), add(p.im, q.im)} }
func (p pair) sub(q pair) pair { return pair{sub(p.re, q.re), sub(p.im, q.im)} }
func (p pair) mul(q pair) pair {
	return pair{sub(mul(p.re, q.re), mul(p.im, q.im)), add(mul(p.re, q.im), mul(p.im, q.re))}
}
func (p pair) norm() *big.Rat { return add(mul(p.re, p.re), mul(p.im, p.im)) }
func (p pair) div(q pair) pair {
	inverse := new(big.Rat).Inv(q.norm())
	top := p.mul(pair{q.re, new(big.Rat).Neg(q.im)})
	return pair{mul(top.re, inverse), mul(top.im, inverse)}
}

// dice is a row of numbers that look random and are always the same.
type dice uint64

func (d *dice) next() uint64 {
	*d += 0x9e3779b97f4a7c15
	z := uint64(*d)
	z = (z ^ z>>30) * 0xbf58476d1ce4e5b9
	z = (z ^ z>>27) * 0x94d049bb133111eb
	return z ^ z>>31
}

func (d *dice) below(n int) int { return int(d.next() % uint64(n)) }

// integer returns an integer of up to so many bits, often with long rows of equal bits, where carries and guessed quotients are at their worst.
func (d *dice) integer(bits int) *big.Int {
	n := new(big.Int)
	for n.BitLen() < bits {
		k := uint(d.below(70) + 1)
		n.Lsh(n, k)
		fill := new(big.Int).Sub(new(big.Int).Lsh(big.NewInt(1), k), big.NewInt(1))
		switch d.below(3) {
		case 0:
			n.Or(n, fill)
		case 1:
			n.Or(n, fill.And(fill, new(big.Int).SetUint64(d.next())))
		}
		if n.Sign() == 0 {
			n.SetInt64(1)
		}
	}
	n.Rsh(n, uint(n.BitLen()-bits))
	if d.below(2) == 0 {
		n.Neg(n)
	}
	return n
}

func (d *dice) rational(bits int) *big.Rat {
	switch d.below(8) {
	case 0:
		return new(big.Rat)
	case 1:
		return new(big.Rat).SetInt(d.integer(d.below(bits) + 1))
	case 2: // a denominator that is a power of two
		return new(big.Rat).SetFrac(d.integer(d.below(bits)+1), new(big.Int).Lsh(big.NewInt(1), uint(d.below(bits))))
	}
	return new(big.Rat).SetFrac(d.integer(d.below(bits)+1), d.integer(d.below(bits)+1))
}

func (d *dice) pair(bits int) pair { return pair{d.rational(bits), d.rational(bits)} }

// small returns a number with small parts.
func (d *dice) small() num.Num {
	x, _ := num.New(int64(d.below(19)-9), int64(d.below(19)-9), int64(d.below(4)+1))
	return x
}

func (d *dice) list(n int) []num.Num {
	l := make([]num.Num, n)
	for i := range l {
		l[i] = d.small()
	}
	return l
}

func (d *dice) matrix(rows, columns int) [][]num.Num {
	m := make([][]num.Num, rows)
	for i := range m {
		m[i] = d.list(columns)
	}
	return m
}
