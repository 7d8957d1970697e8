package record_test

import (
	"math"
	"math/big"
	"reflect"
	"strings"
	"testing"

	"waveport/api"
	"waveport/num"
	"waveport/record"
)

// parse returns the number with a text.
func parse(t testing.TB, s string) num.Num {
	t.Helper()
	x, e := num.Parse(s)
	if e != api.OK {
		t.Fatalf("Parse(%q): %d", s, e)
	}
	return x
}

// list returns the numbers with texts that are parted by blanks.
func list(t testing.TB, s string) []num.Num {
	t.Helper()
	var out []num.Num
	for _, w := range strings.Fields(s) {
		out = append(out, parse(t, w))
	}
	return out
}

// matrix returns the matrix with a text: rows are parted by semicolons.
func matrix(t testing.TB, s string) [][]num.Num {
	t.Helper()
	var out [][]num.Num
	for _, row := range strings.Split(s, ";") {
		out = append(out, list(t, row))
	}
	return out
}

func listText(l []num.Num) string {
	var words []string
	for _, x := range l {
		words = append(words, x.Text())
	}
	return strings.Join(words, " ")
}

func matrixText(m [][]num.Num) string {
	var rows []string
	for _, l := range m {
		rows = append(rows, listText(l))
	}
	return strings.Join(rows, ";")
}

func matricesText(l [][][]num.Num) string {
	var words []string
	for _, m := range l {
		words = append(words, matrixText(m))
	}
	return strings.Join(words, " | ")
}

// wavesText tells sweeps apart.
func wavesText(w record.Waves) string {
	return listText(w.Freqs) + "\nA " + matricesText(w.A) + "\nB " + matricesText(w.B)
}

// tableText tells tables apart.
func tableText(t record.Table) string {
	return t.Z.Text() + "\n" + listText(t.Freqs) + "\n" + matricesText(t.S)
}

// fraction returns the number with the value of r.
func fraction(t testing.TB, r *big.Rat) num.Num {
	t.Helper()
	return parse(t, r.RatString())
}

// dice is a row of numbers that look random and are always the same.
type dice uint64

func (d *dice) next() uint64 {
	*d += 0x9e3779b97f4a7c15
	z := uint64(*d)
	z = (z ^ z>>30) * 0xbf58476d1ce4e5b9
	z = (z ^ z>>27) * 0x94d049bb133111eb
	return z ^ z>>31
}

func (d *dice) below(n int) int { return int(d.next() % uint64(n)) }

func (d *dice) bytes(n int) []byte {
	b := make([]byte, n)
	for i := range b {
		b[i] = byte(d.next())
	}
	return b
}

// small returns a number with small parts.
func (d *dice) small() num.Num {
	x, _ := num.New(int64(d.below(19)-9), int64(d.below(19)-9), int64(d.below(4)+1))
	return x
}

func (d *dice) matrix(rows, columns int) [][]num.Num {
	m := make([][]num.Num, rows)
	for i := range m {
		m[i] = make([]num.Num, columns)
		for k := range m[i] {
			m[i][k] = d.small()
		}
	}
	return m
}

// freqs returns ascending frequencies.
func (d *dice) freqs(n int) []num.Num {
	var out []num.Num
	f := num.Int(0)
	for range n {
		step, _ := num.New(int64(d.below(50)+1), 0, int64(d.below(4)+1))
		f = f.Add(step)
		out = append(out, f)
	}
	return out
}

// waves returns a sweep.
func (d *dice) waves(points, ports int) record.Waves {
	w := record.Waves{Freqs: d.freqs(points)}
	for range points {
		w.A, w.B = append(w.A, d.matrix(ports, ports)), append(w.B, d.matrix(ports, ports))
	}
	return w
}

// sample returns a number that is often at a limit of those that are not clipped.
func (d *dice) sample() int16 {
	switch d.below(6) {
	case 0:
		return 32766
	case 1:
		return -32766
	case 2:
		return 0
	}
	return int16(d.below(65533) - 32766)
}

// frame returns a valid frame without clipped ports.
func (d *dice) frame(ports int) api.Frame {
	f := api.Frame{
		Seq:    uint32(d.next()),
		Point:  d.below(1024),
		Source: d.below(ports) + 1,
		Turn:   d.below(64),
		Scale:  math.Float32frombits(uint32(d.below(0x7f7fffff) + 1)),
	}
	for range ports {
		f.Mates = append(f.Mates, d.below(65536))
		f.Pairs = append(f.Pairs, api.Pair{A: [2]int16{d.sample(), d.sample()}, B: [2]int16{d.sample(), d.sample()}})
	}
	return f
}

// encode returns the bytes of a valid frame.
func encode(t testing.TB, f api.Frame) []byte {
	t.Helper()
	b, e := record.Encode(f)
	if e != api.OK {
		t.Fatalf("Encode of %v: %d", f, e)
	}
	return b
}

// simple is a valid frame with one port.
func simple() api.Frame {
	return api.Frame{Seq: 1, Source: 1, Scale: 0.5, Mates: []int{3}, Pairs: []api.Pair{{A: [2]int16{2, -1}, B: [2]int16{0, 4}}}}
}

// copied returns a frame that shares no memory with f.
func copied(f api.Frame) api.Frame {
	f.Mates = append([]int(nil), f.Mates...)
	f.Pairs = append([]api.Pair(nil), f.Pairs...)
	return f
}

// sealed returns bytes with their check sum in place of the last two of them.
func sealed(b []byte) []byte {
	s := record.Sum(b[:len(b)-2])
	b[len(b)-2], b[len(b)-1] = byte(s>>8), byte(s)
	return b
}

// same is reflect.DeepEqual, for which two lists without elements are equal, too.
func same[T any](a, b []T) bool {
	return len(a) == 0 && len(b) == 0 || reflect.DeepEqual(a, b)
}

// isZero reports whether a result is the zero value of its type; a list without elements is one.
func isZero(x any) bool {
	v := reflect.ValueOf(x)
	if v.Kind() == reflect.Slice {
		return v.Len() == 0
	}
	if v.Kind() == reflect.Struct {
		for i := range v.NumField() {
			if f := v.Field(i); f.Kind() == reflect.Slice && f.Len() > 0 || f.Kind() != reflect.Slice && !f.IsZero() {
				return false
			}
		}
		return true
	}
	return v.IsZero()
}
