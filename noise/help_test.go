package noise_test

import (
	"strings"
	"testing"

	"waveport/api"
	"waveport/box"
	"waveport/network"
	"waveport/noise"
	"waveport/num"
)

// parse returns the number with a text.
func parse(t testing.TB, s string) num.Num {
	t.Helper()
	x, e := num.Parse(s)
	if e != api.OK {
		t.Fatalf("Parse(%q): %d", s, e)
	}
	return x
}

// list returns the numbers with texts that are parted by blanks.
func list(t testing.TB, s string) []num.Num {
	t.Helper()
	var out []num.Num
	for _, w := range strings.Fields(s) {
		out = append(out, parse(t, w))
	}
	return out
}

// matrix returns the matrix with a text: rows are parted by semicolons.
func matrix(t testing.TB, s string) [][]num.Num {
	t.Helper()
	var out [][]num.Num
	for _, row := range strings.Split(s, ";") {
		out = append(out, list(t, row))
	}
	return out
}

func listText(l []num.Num) string {
	var words []string
	for _, x := range l {
		words = append(words, x.Text())
	}
	return strings.Join(words, " ")
}

func matrixText(m [][]num.Num) string {
	var rows []string
	for _, l := range m {
		rows = append(rows, listText(l))
	}
	return strings.Join(rows, ";")
}

// quotient returns x/y for a y that is not 0.
func quotient(x, y num.Num) num.Num {
	q, _ := x.Div(y)
	return q
}

// plain returns the network with the reference impedances z and the matrix s.
func plain[T num.Field[T]](t testing.TB, z []num.Num, s [][]T) network.Net[T] {
	t.Helper()
	n, e := network.New(z, s)
	if e != api.OK {
		t.Fatalf("network.New with %s and %v: %d", listText(z), s, e)
	}
	return n
}

// net returns the network with a text: that of the reference impedances, and that of the matrix.
func net(t testing.TB, z, s string) network.Net[num.Num] {
	t.Helper()
	return plain(t, list(t, z), matrix(t, s))
}

// made returns the network n with the correlation matrix c.
func made[T num.Field[T]](t testing.TB, n network.Net[T], c [][]T) noise.Noisy[T] {
	t.Helper()
	x, e := noise.New(n, c)
	if e != api.OK {
		t.Fatalf("New with %v: %d", c, e)
	}
	return x
}

// noisy returns the network with a text, and the correlation matrix with another one.
func noisy(t testing.TB, z, s, c string) noise.Noisy[num.Num] {
	t.Helper()
	return made(t, net(t, z, s), matrix(t, c))
}

// own returns a network with its own noise at a temperature.
func own[T num.Field[T]](t testing.TB, n network.Net[T], temp num.Num) noise.Noisy[T] {
	t.Helper()
	x, e := noise.Own(n, temp)
	if e != api.OK {
		t.Fatalf("Own at %s: %d", temp.Text(), e)
	}
	return x
}

// refs returns the reference impedances of a network.
func refs[T num.Field[T]](n network.Net[T]) []num.Num {
	z := make([]num.Num, n.Ports())
	for i := range z {
		z[i], _ = n.Ref(i + 1)
	}
	return z
}

// table returns the matrix that has these elements, of rows and columns from 1 on.
func table[T any](n int, at func(i, k int) (T, api.Errno)) [][]T {
	m := make([][]T, n)
	for i := range m {
		for k := range m {
			x, _ := at(i+1, k+1)
			m[i] = append(m[i], x)
		}
	}
	return m
}

// elements returns the scattering matrix of a network.
func elements[T num.Field[T]](n network.Net[T]) [][]T { return table(n.Ports(), n.At) }

// correlation returns the correlation matrix of a network.
func correlation[T num.Field[T]](n noise.Noisy[T]) [][]T { return table(n.Net().Ports(), n.At) }

// noisyText tells networks with noise apart.
func noisyText(n noise.Noisy[num.Num]) string {
	return listText(refs(n.Net())) + " | " + matrixText(elements(n.Net())) + " | " + matrixText(correlation(n))
}

// unlike returns what tells a network from the one that is wanted, or an empty text.
func unlike(n, want noise.Noisy[num.Num]) string {
	if noise.Equal(n, want) && noisyText(n) == noisyText(want) {
		return ""
	}
	return noisyText(n) + ", want " + noisyText(want)
}

// is tests a result.
func is(t testing.TB, what string, n noise.Noisy[num.Num], e api.Errno, want noise.Noisy[num.Num]) {
	t.Helper()
	if x := unlike(n, want); x != "" || e != api.OK {
		t.Errorf("%s: %s, %d", what, x, e)
	}
}

// fails tests an error, and that there is no result with it.
func fails[T num.Field[T]](t testing.TB, what string, n noise.Noisy[T], e, want api.Errno) {
	t.Helper()
	if e != want || n.Net().Ports() != 0 || !noise.Equal(n, noise.Noisy[T]{}) {
		t.Errorf("%s: %d ports, %d, want %d", what, n.Net().Ports(), e, want)
	}
}

// dice is a row of numbers that look random and are always the same.
type dice uint64

func (d *dice) next() uint64 {
	*d += 0x9e3779b97f4a7c15
	z := uint64(*d)
	z = (z ^ z>>30) * 0xbf58476d1ce4e5b9
	z = (z ^ z>>27) * 0x94d049bb133111eb
	return z ^ z>>31
}

func (d *dice) below(n int) int { return int(d.next() % uint64(n)) }

// small returns a number with small parts.
func (d *dice) small() num.Num {
	x, _ := num.New(int64(d.below(19)-9), int64(d.below(19)-9), int64(d.below(9)+1))
	return x
}

// sign returns one of the numbers -1, 0 and 1, so that sums of products are often 0.
func (d *dice) sign() num.Num { return num.Int(int64(d.below(3) - 1)) }

// kelvin returns a temperature.
func (d *dice) kelvin() num.Num {
	x, _ := num.New(int64(d.below(600)), 0, int64(d.below(3)+1))
	return x
}

func (d *dice) matrix(rows, columns int, element func() num.Num) [][]num.Num {
	m := make([][]num.Num, rows)
	for i := range m {
		for range columns {
			m[i] = append(m[i], element())
		}
	}
	return m
}

// refs returns reference impedances.
func (d *dice) refs(n int) []num.Num {
	z := make([]num.Num, n)
	for i := range z {
		z[i], _ = num.New(int64(d.below(9)+1), 0, int64(d.below(3)+1))
	}
	return z
}

// flat returns the same reference impedance for each of some ports.
func flat(n int) []num.Num {
	z := make([]num.Num, n)
	for i := range z {
		z[i] = num.Int(50)
	}
	return z
}

// net returns a network with the reference impedances z; the elements of one of three are signs.
func (d *dice) net(t testing.TB, z []num.Num) network.Net[num.Num] {
	t.Helper()
	element := d.small
	if d.below(3) == 0 {
		element = d.sign
	}
	return plain(t, z, d.matrix(len(z), len(z), element))
}

// noisy returns a network with any correlation matrix.
func (d *dice) noisy(t testing.TB, z []num.Num) noise.Noisy[num.Num] {
	t.Helper()
	return made(t, d.net(t, z), d.matrix(len(z), len(z), d.small))
}

// order returns the numbers from 1 to n in some order.
func (d *dice) order(n int) []int {
	l := make([]int, n)
	for i := range l {
		k := d.below(i + 1)
		l[i] = l[k]
		l[k] = i + 1
	}
	return l
}

// pairs returns pairs of the numbers from 1 to n, each of which occurs at most once.
func (d *dice) pairs(n, count int) [][2]int {
	l := d.order(n)
	var out [][2]int
	for i := range count {
		out = append(out, [2]int{l[2*i], l[2*i+1]})
	}
	return out
}

// gram returns the product of a matrix with its adjoint, which is positive semidefinite.
func gram(a [][]num.Num) [][]num.Num {
	adjoint, _ := num.Adjoint(a)
	h, _ := num.Product(a, adjoint)
	return h
}

// sum returns the sum of two matrices.
func sum(a, b [][]num.Num) [][]num.Num {
	m := make([][]num.Num, len(a))
	for i, row := range a {
		for k, x := range row {
			m[i] = append(m[i], x.Add(b[i][k]))
		}
	}
	return m
}

// around returns boxes around numbers.
func around(t testing.TB, d *dice, m [][]num.Num) [][]box.Box {
	t.Helper()
	out := num.Lift[box.Box](m)
	for _, row := range out {
		for k := range row {
			w := float64(d.below(3)) * 0x1p-20
			b, e := box.Make(complex(-w, -w*float64(d.below(2))), complex(w, w))
			if e != api.OK {
				t.Fatalf("Make: %d", e)
			}
			row[k] = row[k].Add(b)
		}
	}
	return out
}

// between returns the box with two real corners.
func between(t testing.TB, lo, hi float64) box.Box {
	t.Helper()
	b, e := box.Make(complex(lo, 0), complex(hi, 0))
	if e != api.OK {
		t.Fatalf("Make: %d", e)
	}
	return b
}
