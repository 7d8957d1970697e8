package transform_test

import (
	"math"
	"slices"
	"strings"
	"testing"

	"waveport/api"
	"waveport/box"
	"waveport/num"
	"waveport/transform"
)

// lengths are the numbers of elements that can be transformed, exact those with exact factors.
var (
	lengths = []int{1, 2, 4, 8, 16, 32, 64}
	exact   = []int{1, 2, 4}
)

// noLengths are other numbers.
var noLengths = []int{math.MinInt, -64, -4, -1, 0, 3, 5, 6, 7, 12, 48, 63, 65, 96, 128, 1 << 32, 1 << 62, math.MaxInt}

// parse returns the number with a text.
func parse(t testing.TB, s string) num.Num {
	t.Helper()
	x, e := num.Parse(s)
	if e != api.OK {
		t.Fatalf("Parse(%q): %d", s, e)
	}
	return x
}

// list returns the numbers with texts that are parted by blanks.
func list(t testing.TB, s string) []num.Num {
	t.Helper()
	var out []num.Num
	for _, w := range strings.Fields(s) {
		out = append(out, parse(t, w))
	}
	return out
}

func listText(l []num.Num) string {
	var words []string
	for _, x := range l {
		words = append(words, x.Text())
	}
	return strings.Join(words, " ")
}

// fraction returns the real number p/q.
func fraction(p, q int) num.Num {
	x, _ := num.New(int64(p), 0, int64(q))
	return x
}

// factors returns the exact factors of a length.
func factors(t testing.TB, n int) []num.Num {
	t.Helper()
	w, e := transform.Exact(n)
	if e != api.OK {
		t.Fatalf("Exact(%d): %d", n, e)
	}
	return w
}

// roots returns the boxes of the factors of a length.
func roots(t testing.TB, n int) []box.Box {
	t.Helper()
	w, e := transform.Roots(n)
	if e != api.OK {
		t.Fatalf("Roots(%d): %d", n, e)
	}
	return w
}

// is tests the numbers of a result.
func is(t testing.TB, what string, l []num.Num, e api.Errno, want string) {
	t.Helper()
	if listText(l) != want || e != api.OK {
		t.Errorf("%s: %s, %d, want %s", what, listText(l), e, want)
	}
}

// like tests that a result has the elements of another one.
func like[T num.Field[T]](t testing.TB, what string, got []T, e api.Errno, want []T) {
	t.Helper()
	if e != api.OK || !slices.EqualFunc(got, want, func(x, y T) bool { return x.Same(y) }) {
		t.Errorf("%s: %v, %d, want %v", what, got, e, want)
	}
}

// fails tests an error, and that there is no result with it.
func fails[T any](t testing.TB, what string, l []T, e, want api.Errno) {
	t.Helper()
	if len(l) != 0 || e != want {
		t.Errorf("%s: %d elements, %d, want %d", what, len(l), e, want)
	}
}

// zip returns the results of f for the elements of two lists.
func zip[T any](x, y []T, f func(a, b T) T) []T {
	out := make([]T, len(x))
	for k, a := range x {
		out[k] = f(a, y[k])
	}
	return out
}

// sum returns the sums of the elements of two lists.
func sum[T num.Field[T]](x, y []T) []T {
	return zip(x, y, func(a, b T) T { return a.Add(b) })
}

// scaled returns the elements of a list times a number.
func scaled(x []num.Num, a num.Num) []num.Num {
	return zip(x, x, func(b, _ num.Num) num.Num { return a.Mul(b) })
}

// total returns the sum of numbers.
func total(l []num.Num) num.Num {
	var s num.Num
	for _, x := range l {
		s = s.Add(x)
	}
	return s
}

// gates returns all gates of n positions.
func gates(n int) []api.Gate {
	var l []api.Gate
	for from := range n {
		for count := range n + 1 {
			l = append(l, api.Gate{From: from, Count: count})
		}
	}
	return l
}

// inside tells for each of n positions whether it is in a gate.
func inside(g api.Gate, n int) []bool {
	in := make([]bool, n)
	at := g.From
	for range g.Count {
		in[at] = true
		if at++; at == n {
			at = 0
		}
	}
	return in
}

// dice is a row of numbers that look random and are always the same.
type dice uint64

func (d *dice) next() uint64 {
	*d += 0x9e3779b97f4a7c15
	z := uint64(*d)
	z = (z ^ z>>30) * 0xbf58476d1ce4e5b9
	z = (z ^ z>>27) * 0x94d049bb133111eb
	return z ^ z>>31
}

func (d *dice) below(n int) int { return int(d.next() % uint64(n)) }

// small returns a number with small parts.
func (d *dice) small() num.Num {
	x, _ := num.New(int64(d.below(19)-9), int64(d.below(19)-9), int64(d.below(9)+1))
	return x
}

// sign returns one of the numbers -1, 0 and 1.
func (d *dice) sign() num.Num { return num.Int(int64(d.below(3) - 1)) }

func (d *dice) list(n int) []num.Num {
	l := make([]num.Num, n)
	for k := range l {
		l[k] = d.small()
	}
	return l
}

// gate returns a gate of n positions.
func (d *dice) gate(n int) api.Gate {
	return api.Gate{From: d.below(n), Count: d.below(n + 1)}
}

// box returns a box around a number; some are points, some are without bounds on one side.
func (d *dice) box(x num.Num) box.Box {
	w := []float64{0, 0x1p-40, 0x1p-10, 1}[d.below(4)]
	lo, hi := complex(-w, -w*float64(d.below(2))), complex(w*float64(d.below(2)), w)
	if d.below(20) == 0 {
		hi = complex(math.Inf(1), imag(hi))
	}
	b, _ := box.Make(lo, hi)
	return b.Add(b.Of(x))
}

func (d *dice) boxes(l []num.Num) []box.Box {
	out := make([]box.Box, len(l))
	for k, x := range l {
		out[k] = d.box(x)
	}
	return out
}

// narrow returns boxes around numbers that are as wide as one float64.
func narrow(l []num.Num) []box.Box {
	return num.Lift[box.Box]([][]num.Num{l})[0]
}

// between returns the box with two real corners.
func between(t testing.TB, lo, hi float64) box.Box {
	t.Helper()
	b, e := box.Make(complex(lo, 0), complex(hi, 0))
	if e != api.OK {
		t.Fatalf("Make: %d", e)
	}
	return b
}
