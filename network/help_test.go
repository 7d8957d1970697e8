package network_test

import (
	"strings"
	"testing"

	"waveport/api"
	"waveport/box"
	"waveport/network"
	"waveport/num"
)

// parse returns the number with a text.
func parse(t testing.TB, s string) num.Num {
	t.Helper()
	x, e := num.Parse(s)
	if e != api.OK {
		t.Fatalf("Parse(%q): %d", s, e)
	}
	return x
}

// list returns the numbers with texts that are parted by blanks.
func list(t testing.TB, s string) []num.Num {
	t.Helper()
	var out []num.Num
	for _, w := range strings.Fields(s) {
		out = append(out, parse(t, w))
	}
	return out
}

// matrix returns the matrix with a text: rows are parted by semicolons.
func matrix(t testing.TB, s string) [][]num.Num {
	t.Helper()
	var out [][]num.Num
	for _, row := range strings.Split(s, ";") {
		out = append(out, list(t, row))
	}
	return out
}

func listText(l []num.Num) string {
	var words []string
	for _, x := range l {
		words = append(words, x.Text())
	}
	return strings.Join(words, " ")
}

func matrixText(m [][]num.Num) string {
	var rows []string
	for _, l := range m {
		rows = append(rows, listText(l))
	}
	return strings.Join(rows, ";")
}

// made returns the network with the reference impedances z and the matrix s.
func made[T num.Field[T]](t testing.TB, z []num.Num, s [][]T) network.Net[T] {
	t.Helper()
	n, e := network.New(z, s)
	if e != api.OK {
		t.Fatalf("New with %s and %v: %d", listText(z), s, e)
	}
	return n
}

// net returns the network with a text: that of the reference impedances, and that of the matrix.
func net(t testing.TB, z, s string) network.Net[num.Num] {
	t.Helper()
	return made(t, list(t, z), matrix(t, s))
}

// refs returns the reference impedances of a network.
func refs[T num.Field[T]](n network.Net[T]) []num.Num {
	z := make([]num.Num, n.Ports())
	for i := range z {
		z[i], _ = n.Ref(i + 1)
	}
	return z
}

// elements returns the matrix of a network.
func elements[T num.Field[T]](n network.Net[T]) [][]T {
	s := make([][]T, n.Ports())
	for i := range s {
		for j := range s {
			x, _ := n.At(i+1, j+1)
			s[i] = append(s[i], x)
		}
	}
	return s
}

// netText tells networks apart.
func netText(n network.Net[num.Num]) string {
	return listText(refs(n)) + " | " + matrixText(elements(n))
}

// unlike returns what tells a network from the one that is wanted, or an empty text.
func unlike(n, want network.Net[num.Num]) string {
	if network.Equal(n, want) && netText(n) == netText(want) {
		return ""
	}
	return netText(n) + ", want " + netText(want)
}

// fails tests an error, and that there is no result with it.
func fails[T num.Field[T]](t testing.TB, what string, n network.Net[T], e, want api.Errno) {
	t.Helper()
	if e != want || n.Ports() != 0 || !network.Equal(n, network.Net[T]{}) {
		t.Errorf("%s: %d ports, %d, want %d", what, n.Ports(), e, want)
	}
}

// dice is a row of numbers that look random and are always the same.
type dice uint64

func (d *dice) next() uint64 {
	*d += 0x9e3779b97f4a7c15
	z := uint64(*d)
	z = (z ^ z>>30) * 0xbf58476d1ce4e5b9
	z = (z ^ z>>27) * 0x94d049bb133111eb
	return z ^ z>>31
}

func (d *dice) below(n int) int { return int(d.next() % uint64(n)) }

// small returns a number with small parts.
func (d *dice) small() num.Num {
	x, _ := num.New(int64(d.below(19)-9), int64(d.below(19)-9), int64(d.below(9)+1))
	return x
}

// plain returns one of the numbers -1, 0 and 1, so that sums of products are often 0.
func (d *dice) plain() num.Num { return num.Int(int64(d.below(3) - 1)) }

func (d *dice) list(n int) []num.Num {
	l := make([]num.Num, n)
	for i := range l {
		l[i] = d.small()
	}
	return l
}

func (d *dice) matrix(rows, columns int, element func() num.Num) [][]num.Num {
	m := make([][]num.Num, rows)
	for i := range m {
		m[i] = make([]num.Num, columns)
		for k := range m[i] {
			m[i][k] = element()
		}
	}
	return m
}

// refs returns reference impedances.
func (d *dice) refs(n int) []num.Num {
	z := make([]num.Num, n)
	for i := range z {
		z[i], _ = num.New(int64(d.below(9)+1), 0, int64(d.below(3)+1))
	}
	return z
}

// flat returns the same reference impedance for each of some ports.
func flat(n int) []num.Num {
	z := make([]num.Num, n)
	for i := range z {
		z[i] = num.Int(50)
	}
	return z
}

// net returns a network with the reference impedances z; one of three consists of plain elements.
func (d *dice) net(t testing.TB, z []num.Num) network.Net[num.Num] {
	t.Helper()
	element := d.small
	if d.below(3) == 0 {
		element = d.plain
	}
	return made(t, z, d.matrix(len(z), len(z), element))
}

// order returns the numbers from 1 to n in some order.
func (d *dice) order(n int) []int {
	l := make([]int, n)
	for i := range l {
		k := d.below(i + 1)
		l[i] = l[k]
		l[k] = i + 1
	}
	return l
}

// pairs returns pairs of the numbers from 1 to n, each of which occurs at most once.
func (d *dice) pairs(n, count int) [][2]int {
	l := d.order(n)
	var out [][2]int
	for i := range count {
		out = append(out, [2]int{l[2*i], l[2*i+1]})
	}
	return out
}

// quotient returns x/y for a y that is not 0.
func quotient(x, y num.Num) num.Num {
	q, _ := x.Div(y)
	return q
}

// part returns the network with the elements of n times x.
func part(t testing.TB, n network.Net[num.Num], x num.Num) network.Net[num.Num] {
	t.Helper()
	s := elements(n)
	for _, row := range s {
		for j := range row {
			row[j] = row[j].Mul(x)
		}
	}
	return made(t, refs(n), s)
}

// around returns boxes around numbers.
func around(t testing.TB, d *dice, m [][]num.Num) [][]box.Box {
	t.Helper()
	out := num.Lift[box.Box](m)
	for _, row := range out {
		for k := range row {
			w := float64(d.below(3)) * 0x1p-20
			b, e := box.Make(complex(-w, -w*float64(d.below(2))), complex(w, w))
			if e != api.OK {
				t.Fatalf("Make: %d", e)
			}
			row[k] = row[k].Add(b)
		}
	}
	return out
}

// boxed returns a network of boxes around the elements of n.
func boxed(t testing.TB, d *dice, n network.Net[num.Num]) network.Net[box.Box] {
	t.Helper()
	if n.Ports() == 0 {
		return network.Net[box.Box]{}
	}
	return made(t, refs(n), around(t, d, elements(n)))
}

// between returns the box with two real corners.
func between(t testing.TB, lo, hi float64) box.Box {
	t.Helper()
	b, e := box.Make(complex(lo, 0), complex(hi, 0))
	if e != api.OK {
		t.Fatalf("Make: %d", e)
	}
	return b
}
