package record_test

import (
	"bytes"
	"math"
	"reflect"
	"testing"

	"waveport/api"
	"waveport/record"
)

// remainder returns the check sum by long division: the register is the remainder of the bits, of which the first 16 are inverted, with 16 zeros behind them.
func remainder(b []byte) uint16 {
	l := append(append([]byte{}, b...), 0, 0)
	l[0], l[1] = ^l[0], ^l[1]
	bit := func(i int) bool { return l[i/8]>>(7-i%8)&1 == 1 }
	flip := func(i int) { l[i/8] ^= 1 << (7 - i%8) }
	for i := range 8 * len(b) {
		if bit(i) {
			for _, k := range []int{0, 4, 11, 16} { // x^16 + x^12 + x^5 + 1
				flip(i + k)
			}
		}
	}
	return uint16(l[len(b)])<<8 | uint16(l[len(b)+1])
}

func TestSum(t *testing.T) {
	for s, want := range map[string]uint16{"": 0xffff, "123456789": 0x29b1, "A": 0xb915} {
		if got := record.Sum([]byte(s)); got != want {
			t.Errorf("Sum of %q: %x, want %x", s, got, want)
		}
	}
	d := dice(1)
	for i := range 300 {
		b := d.bytes(i + 1)
		if got := record.Sum(b); got != remainder(b) {
			t.Fatalf("Sum of %x: %x, want %x", b, got, remainder(b))
		}
	}
}

func TestEncode(t *testing.T) {
	for _, c := range []struct {
		f    api.Frame
		want string
	}{
		{simple(), "WV\x01\x01\x00\x00\x00\x01\x00\x00\x00\x00\x3f\x00\x00\x00\x00\x03\x00\x02\xff\xff\x00\x00\x00\x04"},
		{
			api.Frame{
				Seq: 0x89abcdef, Point: 0x321, Source: 2, Turn: 0x2a, Scale: 3.1415927, Mates: []int{0xfedc, 0x0102, 0},
				Pairs: []api.Pair{{A: [2]int16{0x1122, -0x1122}, B: [2]int16{-2, 0x7fff}}, {A: [2]int16{-0x8000, 1}, B: [2]int16{2, 3}}, {}},
			},
			"WV\x03\x02\x89\xab\xcd\xef\x03\x21\x2a\x00\x40\x49\x0f\xdb" +
				"\xfe\xdc\x11\x22\xee\xde\xff\xfe\x7f\xff" + "\x01\x02\x80\x00\x00\x01\x00\x02\x00\x03" + "\x00\x00\x00\x00\x00\x00\x00\x00\x00\x00",
		},
	} {
		b := encode(t, c.f)
		if string(b[:len(b)-2]) != c.want {
			t.Errorf("Encode: %x, want %x", b, c.want)
		}
		if s := remainder(b[:len(b)-2]); string(b[len(b)-2:]) != string([]byte{byte(s >> 8), byte(s)}) {
			t.Errorf("Encode: %x, want the check sum %x", b, s)
		}
	}
}

// TestFrames is P3.2.
func TestFrames(t *testing.T) {
	d := dice(2)
	for i := range 64 {
		f := d.frame(i%8 + 1)
		b := encode(t, f)
		if len(b) != 18+10*len(f.Pairs) {
			t.Fatalf("%d bytes of %v", len(b), f)
		}
		got, n, e := record.Decode(append(append([]byte{}, b...), d.bytes(i%5)...))
		if e != api.OK || n != len(b) || !reflect.DeepEqual(got, f) {
			t.Errorf("Decode: %v, %d, %d, want %v", got, n, e, f)
		}
		for k := range b {
			if got, n, e := record.Decode(b[:k]); e != api.ErrTorn || n != 0 || !isZero(got) {
				t.Errorf("Decode of the first %d bytes: %v, %d, %d", k, got, n, e)
			}
		}
		for k := range 8 * len(b) {
			if k/8 == 2 {
				continue
			}
			spoilt := append([]byte{}, b...)
			spoilt[k/8] ^= 1 << (k % 8)
			want := api.ErrSum
			if k < 16 {
				want = api.ErrForm
			}
			if got, n, e := record.Decode(spoilt); e != want || n != 0 || !isZero(got) {
				t.Errorf("Decode with bit %d changed: %v, %d, %d, want %d", k, got, n, e, want)
			}
		}
	}
}

func TestValid(t *testing.T) {
	inf, nan := float32(math.Inf(1)), float32(math.NaN())
	for i, c := range []struct {
		change func(f *api.Frame)
		want   bool
	}{
		{func(f *api.Frame) {}, true},
		{func(f *api.Frame) { f.Seq = math.MaxUint32 }, true},
		{func(f *api.Frame) { f.Seq = 0 }, true},
		{func(f *api.Frame) { f.Point = 1023 }, true},
		{func(f *api.Frame) { f.Point = 1024 }, false},
		{func(f *api.Frame) { f.Point = -1 }, false},
		{func(f *api.Frame) { f.Point = 1 << 32 }, false},
		{func(f *api.Frame) { f.Source = 0 }, false},
		{func(f *api.Frame) { f.Source = -1 }, false},
		{func(f *api.Frame) { f.Source = 3 }, false},
		{func(f *api.Frame) { f.Source = 1 }, true},
		{func(f *api.Frame) { f.Source = 258 }, false},
		{func(f *api.Frame) { f.Turn = 63 }, true},
		{func(f *api.Frame) { f.Turn = 64 }, false},
		{func(f *api.Frame) { f.Turn = -1 }, false},
		{func(f *api.Frame) { f.Scale = 0 }, false},
		{func(f *api.Frame) { f.Scale = float32(math.Copysign(0, -1)) }, false},
		{func(f *api.Frame) { f.Scale = -1 }, false},
		{func(f *api.Frame) { f.Scale = inf }, false},
		{func(f *api.Frame) { f.Scale = -inf }, false},
		{func(f *api.Frame) { f.Scale = nan }, false},
		{func(f *api.Frame) { f.Scale = math.MaxFloat32 }, true},
		{func(f *api.Frame) { f.Scale = math.SmallestNonzeroFloat32 }, true},
		{func(f *api.Frame) { f.Mates = nil }, false},
		{func(f *api.Frame) { f.Mates = []int{1} }, false},
		{func(f *api.Frame) { f.Mates = []int{1, 1, 1} }, false},
		{func(f *api.Frame) { f.Mates = []int{0, 65535} }, true},
		{func(f *api.Frame) { f.Mates = []int{0, 65536} }, false},
		{func(f *api.Frame) { f.Mates = []int{-1, 0} }, false},
		{func(f *api.Frame) { f.Pairs, f.Mates = nil, nil }, false},
		{func(f *api.Frame) { f.Pairs = nil }, false},
		{func(f *api.Frame) { f.Pairs = f.Pairs[:1] }, false},
		{func(f *api.Frame) { f.Pairs, f.Mates = make([]api.Pair, 8), make([]int, 8) }, true},
		{func(f *api.Frame) { f.Pairs, f.Mates = make([]api.Pair, 9), make([]int, 9) }, false},
		{func(f *api.Frame) { f.Pairs, f.Mates = make([]api.Pair, 257), make([]int, 257) }, false},
		{func(f *api.Frame) { *f = api.Frame{} }, false},
	} {
		f := api.Frame{Seq: 5, Point: 7, Source: 2, Turn: 4, Scale: 2, Mates: []int{1, 2}, Pairs: make([]api.Pair, 2)}
		c.change(&f)
		if got := record.Valid(f); got != c.want {
			t.Errorf("Valid, case %d: %v", i, got)
		}
		b, e := record.Encode(f)
		_, _, d := record.Decode(b)
		x, y, g := record.Values(f)
		s, h := record.Samples(f)
		w, k := record.Wear([]api.Frame{f})
		if c.want != (e == api.OK && d == api.OK && g == api.OK && h == api.OK && k == api.OK) {
			t.Errorf("case %d: Encode %d, Decode %d, Values %d, Samples %d, Wear %d", i, e, d, g, h, k)
		}
		if !c.want && (e != api.ErrArg || g != api.ErrArg || h != api.ErrArg || k != api.ErrArg || len(b)+len(x)+len(y)+len(s)+len(w) > 0) {
			t.Errorf("case %d: Encode %d, Values %d, Samples %d, Wear %d, and results", i, e, g, h, k)
		}
	}
}

func TestDecodeErrors(t *testing.T) {
	f := simple()
	f.Mates, f.Pairs = []int{1, 2}, make([]api.Pair, 2)
	whole := encode(t, f)
	// with returns the bytes of f with some changed, and with another check sum.
	with := func(at int, x ...byte) []byte {
		b := append([]byte{}, whole...)
		copy(b[at:], x)
		return sealed(b)
	}
	spoilt := func(b []byte) []byte {
		b[len(b)-1] ^= 1
		return b
	}
	for i, c := range []struct {
		b    []byte
		want api.Errno
	}{
		{nil, api.ErrTorn},
		{[]byte("W"), api.ErrTorn},
		{[]byte("V"), api.ErrForm},
		{[]byte("WV"), api.ErrTorn},
		{[]byte("WW"), api.ErrForm},
		{[]byte("VV"), api.ErrForm},
		{[]byte("WV\x00"), api.ErrForm},
		{[]byte("WV\x01"), api.ErrTorn},
		{[]byte("WV\x08"), api.ErrTorn},
		{[]byte("WV\x09"), api.ErrForm},
		{[]byte("WV\xff"), api.ErrForm},
		{[]byte("WX\x01"), api.ErrForm},
		{[]byte("wV\x01"), api.ErrForm},
		{bytes.Repeat([]byte{0}, 100), api.ErrForm},
		{whole[:37], api.ErrTorn},
		{whole, api.OK},
		{with(11, 1), api.ErrArg},
		{with(11, 128), api.ErrArg},
		{with(3, 0), api.ErrArg},
		{with(3, 2), api.OK},
		{with(3, 3), api.ErrArg},
		{with(8, 3, 255), api.OK},
		{with(8, 4, 0), api.ErrArg},
		{with(8, 255, 255), api.ErrArg},
		{with(10, 63), api.OK},
		{with(10, 64), api.ErrArg},
		{with(10, 255), api.ErrArg},
		{with(12, 0, 0, 0, 0), api.ErrArg},
		{with(12, 0, 0, 0, 1), api.OK},
		{with(12, 0x80, 0, 0, 0), api.ErrArg},
		{with(12, 0x7f, 0x7f, 0xff, 0xff), api.OK},
		{with(12, 0x7f, 0x80, 0, 0), api.ErrArg},
		{with(12, 0x7f, 0x80, 0, 1), api.ErrArg},
		{with(12, 0xbf, 0x80, 0, 0), api.ErrArg},
		{with(16, 255, 255), api.OK},
		{spoilt(with(11, 1)), api.ErrSum},
		{spoilt(with(3, 0)), api.ErrSum},
		{with(11, 1)[:37], api.ErrTorn},
	} {
		f, n, e := record.Decode(c.b)
		if e != c.want {
			t.Errorf("case %d: %d, want %d", i, e, c.want)
		}
		if e != api.OK && (n != 0 || !isZero(f)) {
			t.Errorf("case %d: %v, %d with an error", i, f, n)
		}
		if e == api.OK && (n != 38 || !record.Valid(f)) {
			t.Errorf("case %d: %v, %d", i, f, n)
		}
	}
}

// TestFramesApart is R4: no result shares memory with an argument.
func TestFramesApart(t *testing.T) {
	f := simple()
	b := encode(t, f)
	text := string(b)
	g, _, _ := record.Decode(b)
	for i := range b {
		b[i] = 0
	}
	if !reflect.DeepEqual(f, simple()) || !reflect.DeepEqual(g, simple()) {
		t.Error("a frame and its bytes share memory")
	}
	g.Mates[0], g.Pairs[0] = 9, api.Pair{}
	if string(encode(t, f)) != text {
		t.Error("two frames share memory")
	}
}
