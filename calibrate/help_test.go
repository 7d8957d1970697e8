package calibrate_test

import (
	"strings"
	"testing"

	"waveport/api"
	"waveport/box"
	"waveport/calibrate"
	"waveport/num"
)

type (
	terms  = calibrate.Terms[num.Num]
	set    = calibrate.Set[num.Num]
	thru   = calibrate.Thru[num.Num]
	six    = calibrate.Six[num.Num]
	lines  = calibrate.Lines[num.Num]
	square = [2][2]num.Num
)

// parse returns the number with a text.
func parse(t testing.TB, s string) num.Num {
	t.Helper()
	x, e := num.Parse(s)
	if e != api.OK {
		t.Fatalf("Parse(%q): %d", s, e)
	}
	return x
}

// list returns the numbers with texts that are parted by blanks.
func list(t testing.TB, s string) []num.Num {
	t.Helper()
	var out []num.Num
	for _, w := range strings.Fields(s) {
		out = append(out, parse(t, w))
	}
	return out
}

// matrix returns the matrix with a text: rows are parted by semicolons.
func matrix(t testing.TB, s string) [][]num.Num {
	t.Helper()
	var out [][]num.Num
	for _, row := range strings.Split(s, ";") {
		out = append(out, list(t, row))
	}
	return out
}

// two returns the matrix with a text that has two rows and columns.
func two(t testing.TB, s string) square {
	t.Helper()
	m := matrix(t, s)
	return square{{m[0][0], m[0][1]}, {m[1][0], m[1][1]}}
}

// rows returns a matrix as lists.
func rows[T any](m [2][2]T) [][]T {
	return [][]T{{m[0][0], m[0][1]}, {m[1][0], m[1][1]}}
}

func listText(l []num.Num) string {
	var words []string
	for _, x := range l {
		words = append(words, x.Text())
	}
	return strings.Join(words, " ")
}

func matrixText(m [][]num.Num) string {
	var out []string
	for _, l := range m {
		out = append(out, listText(l))
	}
	return strings.Join(out, ";")
}

// termsOf returns the terms with a text: Directivity, Match and Tracking.
func termsOf(t testing.TB, s string) terms {
	t.Helper()
	l := list(t, s)
	return terms{Directivity: l[0], Match: l[1], Tracking: l[2]}
}

func termsText(x terms) string {
	return listText([]num.Num{x.Directivity, x.Match, x.Tracking})
}

// setText tells calibrations apart.
func setText(c set) string {
	var out []string
	for _, p := range c.Ports {
		out = append(out, termsText(p))
	}
	return strings.Join(out, ";") + " | " + listText(c.Enter)
}

func sixText(x [2]six) string {
	var out []string
	for _, y := range x {
		out = append(out, termsText(y.One)+" "+listText([]num.Num{y.Leakage, y.LoadMatch, y.Transfer}))
	}
	return strings.Join(out, ";")
}

// quotient returns x/y for a y that is not 0.
func quotient(x, y num.Num) num.Num {
	q, _ := x.Div(y)
	return q
}

// is tests a result with its error.
func is(t testing.TB, what string, x num.Num, e api.Errno, want string) {
	t.Helper()
	if x.Text() != want || e != api.OK {
		t.Errorf("%s: %s, %d, want %s", what, x.Text(), e, want)
	}
}

// fails tests an error, and that the result with it is 0.
func fails(t testing.TB, what string, x num.Num, e, want api.Errno) {
	t.Helper()
	if x.Clear() || e != want {
		t.Errorf("%s: %s, %d, want %d", what, x.Text(), e, want)
	}
}

// code tests an error, and whether there is nothing with it.
func code(t testing.TB, what string, empty bool, e, want api.Errno) {
	t.Helper()
	if e != want || e != api.OK && !empty {
		t.Errorf("%s: %d, want %d; no result: %v", what, e, want, empty)
	}
}

// noSet reports whether a calibration is the zero value.
func noSet[T num.Field[T]](c calibrate.Set[T]) bool {
	return len(c.Ports) == 0 && len(c.Enter) == 0
}

// allZero reports whether the numbers of a list are all 0.
func allZero(l ...num.Num) bool {
	for _, x := range l {
		if x.Clear() {
			return false
		}
	}
	return true
}

func noTwo(m square) bool { return allZero(append(m[0][:], m[1][:]...)...) }

// dice is a row of numbers that look random and are always the same.
type dice uint64

func (d *dice) next() uint64 {
	*d += 0x9e3779b97f4a7c15
	z := uint64(*d)
	z = (z ^ z>>30) * 0xbf58476d1ce4e5b9
	z = (z ^ z>>27) * 0x94d049bb133111eb
	return z ^ z>>31
}

func (d *dice) below(n int) int { return int(d.next() % uint64(n)) }

// small returns a number with small parts.
func (d *dice) small() num.Num {
	x, _ := num.New(int64(d.below(19)-9), int64(d.below(19)-9), int64(d.below(9)+1))
	return x
}

// clear returns a number with small parts that is not 0.
func (d *dice) clear() num.Num {
	for {
		if x := d.small(); x.Clear() {
			return x
		}
	}
}

// real returns a real number.
func (d *dice) real() num.Num { return d.small().Re() }

// sign returns one of the numbers -1, 0 and 1, so that sums of products are often 0.
func (d *dice) sign() num.Num { return num.Int(int64(d.below(3) - 1)) }

// acute returns a number within a quarter turn of 1.
func (d *dice) acute() num.Num {
	x, _ := num.New(int64(d.below(9)+1), int64(d.below(19)-9), 7)
	return x
}

func (d *dice) list(n int, element func() num.Num) []num.Num {
	l := make([]num.Num, n)
	for i := range l {
		l[i] = element()
	}
	return l
}

func (d *dice) matrix(n int, element func() num.Num) [][]num.Num {
	m := make([][]num.Num, n)
	for i := range m {
		m[i] = d.list(n, element)
	}
	return m
}

func (d *dice) two(element func() num.Num) square {
	return square{{element(), element()}, {element(), element()}}
}

// different returns numbers that are pairwise different.
func (d *dice) different(n int) []num.Num {
	var l []num.Num
	for len(l) < n {
		x := d.small()
		fresh := true
		for _, y := range l {
			fresh = fresh && !x.Same(y)
		}
		if fresh {
			l = append(l, x)
		}
	}
	return l
}

// terms returns terms whose Tracking is not 0.
func (d *dice) terms() terms {
	return terms{Directivity: d.small(), Match: d.small(), Tracking: d.clear()}
}

// set returns a calibration of some ports. The first factor is 1.
func (d *dice) set(ports int) set {
	c := set{Enter: d.list(ports, d.clear)}
	c.Enter[0] = num.Int(1)
	for range ports {
		c.Ports = append(c.Ports, d.terms())
	}
	return c
}

// order returns the numbers from 0 to n - 1 in some order.
func (d *dice) order(n int) []int {
	l := make([]int, n)
	for i := range l {
		k := d.below(i + 1)
		l[i] = l[k]
		l[k] = i
	}
	return l
}

// seen returns the raw matrix that an analyzer with a calibration shows of a device: for each port that sends, the equations of all waves are solved at once.
func seen(c set, s [][]num.Num) ([][]num.Num, api.Errno) {
	n := len(s)
	zero, one := num.Int(0), num.Int(1)
	m := make([][]num.Num, 2*n) // a_i - Match_i b_i = Enter_i at the port that sends, b_i - s_ij a_j = 0
	for i := range n {
		m[i], m[n+i] = make([]num.Num, 2*n), make([]num.Num, 2*n)
		m[i][i], m[i][n+i], m[n+i][n+i] = one, c.Ports[i].Match.Neg(), one
		for j := range n {
			m[n+i][j] = s[i][j].Neg()
		}
	}
	raw := make([][]num.Num, n)
	for i := range raw {
		raw[i] = make([]num.Num, n)
	}
	for k := range n {
		right := make([]num.Num, 2*n)
		right[k] = c.Enter[k]
		waves, e := num.Solve(m, right)
		if e != api.OK {
			return nil, e
		}
		for i := range n {
			d := zero
			if i == k {
				d = c.Ports[i].Directivity
			}
			raw[i][k] = d.Add(quotient(c.Ports[i].Tracking, c.Enter[i]).Mul(waves[n+i]))
		}
	}
	return raw, api.OK
}

// blur makes boxes around numbers, up to four times as wide as its width.
type blur struct {
	d     *dice
	width float64
}

func (b blur) number(x num.Num) box.Box {
	w := float64(b.d.below(3)) * b.width
	y, _ := box.Make(complex(-w, -w*float64(b.d.below(2))), complex(w, w))
	return y.Add(box.Box{}.Of(x))
}

func (b blur) list(l []num.Num) []box.Box {
	out := make([]box.Box, len(l))
	for i, x := range l {
		out[i] = b.number(x)
	}
	return out
}

func (b blur) matrix(m [][]num.Num) [][]box.Box {
	out := make([][]box.Box, len(m))
	for i, l := range m {
		out[i] = b.list(l)
	}
	return out
}

func (b blur) two(m square) [2][2]box.Box {
	return [2][2]box.Box{[2]box.Box(b.list(m[0][:])), [2]box.Box(b.list(m[1][:]))}
}

func (b blur) terms(x terms) calibrate.Terms[box.Box] {
	return calibrate.Terms[box.Box]{Directivity: b.number(x.Directivity), Match: b.number(x.Match), Tracking: b.number(x.Tracking)}
}

func (b blur) ports(l []terms) []calibrate.Terms[box.Box] {
	out := make([]calibrate.Terms[box.Box], len(l))
	for i, x := range l {
		out[i] = b.terms(x)
	}
	return out
}

func (b blur) set(c set) calibrate.Set[box.Box] {
	return calibrate.Set[box.Box]{Ports: b.ports(c.Ports), Enter: b.list(c.Enter)}
}

func (b blur) thrus(l []thru) []calibrate.Thru[box.Box] {
	out := make([]calibrate.Thru[box.Box], len(l))
	for i, x := range l {
		out[i] = calibrate.Thru[box.Box]{P: x.P, Q: x.Q, Forward: b.number(x.Forward), Back: b.number(x.Back)}
	}
	return out
}

func (b blur) lines(l lines) calibrate.Lines[box.Box] {
	return calibrate.Lines[box.Box]{Thru: b.two(l.Thru), Line: b.two(l.Line), Reflect: [2]box.Box(b.list(l.Reflect[:]))}
}

func (b blur) six(x [2]six) [2]calibrate.Six[box.Box] {
	var out [2]calibrate.Six[box.Box]
	for i, y := range x {
		out[i] = calibrate.Six[box.Box]{One: b.terms(y.One), Leakage: b.number(y.Leakage), LoadMatch: b.number(y.LoadMatch), Transfer: b.number(y.Transfer)}
	}
	return out
}

// between returns the box with two real corners.
func between(t testing.TB, lo, hi float64) box.Box {
	t.Helper()
	b, e := box.Make(complex(lo, 0), complex(hi, 0))
	if e != api.OK {
		t.Fatalf("Make: %d", e)
	}
	return b
}
