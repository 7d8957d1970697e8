package num

import "waveport/api"

// maxExponent is the greatest exponent of a decimal number.
const maxExponent = 400

// chunk is the greatest power of ten in a word, with chunkDigits zeros.
const (
	chunk       = 1000000000
	chunkDigits = 9
)

// Parse returns the number with a text.
func Parse(s string) (Num, api.Errno) {
	if len(s) > api.MaxDigits {
		return Num{}, api.ErrSize
	}
	parts, ok := readNumber(s)
	if !ok {
		return Num{}, api.ErrForm
	}
	var sum Num
	for _, p := range parts {
		if len(p.below) == 0 {
			return Num{}, api.ErrZero
		}
		sum = sum.Add(p.value())
	}
	return sum, api.OK
}

// part is a real or imaginary part as a text says it. Nothing but a text's division by zero makes below 0.
type part struct {
	above, below        natural
	negative, imaginary bool
}

func (p part) value() Num {
	n := integer{p.above, false}.signed(p.negative)
	if p.imaginary {
		return lowest(integer{}, n, p.below)
	}
	return lowest(n, integer{}, p.below)
}

// readNumber returns the one or two parts of a text, and whether it has the form of a number.
func readNumber(s string) ([]part, bool) {
	r := &reader{text: s}
	negative := r.take('-')
	first, ok := r.magnitude()
	if !ok {
		return nil, false
	}
	first.negative = negative
	if r.take('i') {
		first.imaginary = true
		return []part{first}, r.done()
	}
	if r.done() {
		return []part{first}, true
	}
	negative = r.take('-')
	if !negative && !r.take('+') {
		return nil, false
	}
	second, ok := r.magnitude()
	if !ok || !r.take('i') {
		return nil, false
	}
	second.negative, second.imaginary = negative, true
	return []part{first, second}, r.done()
}

// reader is a position in a text.
type reader struct {
	text string
	at   int
}

func (r *reader) done() bool {
	return r.at == len(r.text)
}

// take steps over a byte, if it is the next one.
func (r *reader) take(b byte) bool {
	if r.done() || r.text[r.at] != b {
		return false
	}
	r.at++
	return true
}

// digits steps over the digits that are next, and returns them.
func (r *reader) digits() string {
	from := r.at
	for !r.done() && '0' <= r.text[r.at] && r.text[r.at] <= '9' {
		r.at++
	}
	return r.text[from:r.at]
}

// whole returns the digits of a whole number, and whether it is one: there are digits, and no needless 0 ahead of them.
func (r *reader) whole() (string, bool) {
	s := r.digits()
	return s, s == "0" || s != "" && s[0] != '0'
}

func (r *reader) magnitude() (part, bool) {
	digits, ok := r.whole()
	if !ok {
		return part{}, false
	}
	if r.take('/') {
		below, ok := r.whole()
		return part{above: fromDigits(digits), below: fromDigits(below)}, ok
	}
	tens := 0 // the number is that of the digits, times 10^tens
	if r.take('.') {
		decimals := r.digits()
		if decimals == "" {
			return part{}, false
		}
		digits += decimals
		tens = -len(decimals)
	}
	if r.take('e') {
		e, ok := r.exponent()
		if !ok {
			return part{}, false
		}
		tens += e
	}
	return part{above: fromDigits(digits).mul(powerOfTen(tens)), below: powerOfTen(-tens)}, true
}

// exponent returns what is behind an e.
func (r *reader) exponent() (int, bool) {
	negative := r.take('-')
	s, ok := r.whole()
	if !ok || len(s) > 3 {
		return 0, false
	}
	n := 0
	for _, d := range []byte(s) {
		n = 10*n + int(d-'0')
	}
	if negative {
		return -n, n <= maxExponent
	}
	return n, n <= maxExponent
}

// fromDigits returns the number with these decimal digits.
func fromDigits(s string) natural {
	var n natural
	for len(s) > 0 {
		k := min(len(s), chunkDigits)
		var value, scale uint32 = 0, 1
		for _, d := range []byte(s[:k]) {
			value = 10*value + uint32(d-'0')
			scale *= 10
		}
		n = n.mulWord(scale, value)
		s = s[k:]
	}
	return n
}

// powerOfTen returns 10^n; 1 for an n below 0.
func powerOfTen(n int) natural {
	p := natural{1}
	for ; n >= chunkDigits; n -= chunkDigits {
		p = p.mulWord(chunk, 0)
	}
	for ; n > 0; n-- {
		p = p.mulWord(10, 0)
	}
	return p
}

// Text returns the text of x.
func (x Num) Text() string {
	re, im := x.Re(), x.Im()
	switch {
	case x.im.isZero():
		return re.realText()
	case x.re.isZero():
		return im.realText() + "i"
	case x.im.negative:
		return re.realText() + im.realText() + "i"
	}
	return re.realText() + "+" + im.realText() + "i"
}

// realText returns the text of a real x.
func (x Num) realText() string {
	s := x.re.size.text()
	if x.re.negative {
		s = "-" + s
	}
	if len(x.den) > 0 {
		s += "/" + x.den.text()
	}
	return s
}

// text returns the decimal digits of x.
func (x natural) text() string {
	if len(x) == 0 {
		return "0"
	}
	rest := make(natural, len(x))
	copy(rest, x)
	digits := make([]byte, 10*len(x)+chunkDigits)
	at := len(digits)
	for len(rest) > 0 {
		c := divWord(rest, rest, chunk)
		rest = rest.trim()
		for i := 0; i < chunkDigits; i++ {
			at--
			digits[at] = byte('0' + c%10)
			c /= 10
		}
	}
	for digits[at] == '0' {
		at++
	}
	return string(digits[at:])
}
