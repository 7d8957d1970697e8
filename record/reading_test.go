package record_test

import (
	"math"
	"math/big"
	"slices"
	"testing"

	"waveport/api"
	"waveport/num"
	"waveport/record"
)

func TestClipped(t *testing.T) {
	for i := range 4 {
		for x, want := range map[int16]bool{
			32767: true, -32767: true, -32768: true, 32766: false, -32766: false, 0: false, 1: false,
		} {
			l := [4]int16{5, -5, 32766, -32766}
			l[i] = x
			p := api.Pair{A: [2]int16{l[0], l[1]}, B: [2]int16{l[2], l[3]}}
			f := api.Frame{Pairs: []api.Pair{{}, p, {}}}
			if got := record.Clipped(f); want && !same(got, []int{2}) || !want && len(got) > 0 {
				t.Errorf("Clipped with %v: %v", p, got)
			}
		}
	}
	f := api.Frame{Pairs: make([]api.Pair, 12)}
	for _, k := range []int{11, 0, 4} {
		f.Pairs[k].B[1] = -32768
	}
	if got := record.Clipped(f); !same(got, []int{1, 5, 12}) {
		t.Errorf("Clipped of many ports: %v", got)
	}
	if got := record.Clipped(api.Frame{}); len(got) > 0 {
		t.Errorf("Clipped of no ports: %v", got)
	}
}

// times returns a sample number times a scale, exactly.
func times(x int16, scale float32) *big.Rat {
	s := new(big.Rat).SetFloat64(float64(scale))
	return s.Mul(s, new(big.Rat).SetInt64(int64(x)))
}

// rounded returns the float32 nearest to x.
func rounded(x *big.Rat) float32 {
	f, _ := x.Float32()
	return f
}

// hasParts reports whether x has these parts.
func hasParts(t *testing.T, x num.Num, re, im *big.Rat) bool {
	return x.Re().Same(fraction(t, re)) && x.Im().Same(fraction(t, im))
}

func TestValuesAndSamples(t *testing.T) {
	d := dice(5)
	for i := range 400 {
		f := d.frame(i%8 + 1)
		switch i % 4 {
		case 0: // products that are subnormal, or just above
			f.Scale = math.Float32frombits(uint32(d.below(1<<20) + 1))
		case 1: // products that are too great
			f.Scale = math.Float32frombits(0x7f7fffff - uint32(d.below(8<<23)))
		}
		a, b, e := record.Values(f)
		s, g := record.Samples(f)
		if e != api.OK || g != api.OK || len(a) != len(f.Pairs) || len(b) != len(a) || len(s) != len(a) {
			t.Fatalf("Values and Samples of %v: %d, %d", f, e, g)
		}
		for k, p := range f.Pairs {
			for j, x := range []num.Num{a[k], b[k]} {
				sample := [2][2]int16{p.A, p.B}[j]
				re, im := times(sample[0], f.Scale), times(sample[1], f.Scale)
				if !hasParts(t, x, re, im) {
					t.Errorf("port %d of %v: %s", k+1, f, x.Text())
				}
				if want := complex(rounded(re), rounded(im)); s[k][j] != want {
					t.Errorf("port %d of %v: %v, want %v", k+1, f, s[k][j], want)
				}
			}
		}
	}
}

func TestSamples(t *testing.T) {
	inf := float32(math.Inf(1))
	for i, c := range []struct {
		a, b  [2]int16
		scale float32
		want  [2]complex64
	}{
		{[2]int16{2, -1}, [2]int16{0, 4}, 0.5, [2]complex64{complex(1, -0.5), 4i * 0.5}},
		{[2]int16{3, -3}, [2]int16{1, 0}, 0x1.fffffep+126, [2]complex64{complex(inf, -inf), 0x1.fffffep+126}},
		{[2]int16{2, -2}, [2]int16{4, -4}, 0x1.fffffep+126, [2]complex64{complex(math.MaxFloat32, -math.MaxFloat32), complex(inf, -inf)}},
		{[2]int16{0, -32768}, [2]int16{32767, 0}, 0x1p-149, [2]complex64{complex(0, -0x1p-134), complex(32767*0x1p-149, 0)}},
		{[2]int16{3, 5}, [2]int16{0, 0}, 0x1.000002p+0, [2]complex64{complex(0x1.800004p+1, 0x1.400002p+2), 0}}, // two products half way between float32s
	} {
		f := api.Frame{Source: 1, Scale: c.scale, Mates: []int{0}, Pairs: []api.Pair{{A: c.a, B: c.b}}}
		s, e := record.Samples(f)
		if e != api.OK || len(s) != 1 || s[0] != c.want {
			t.Errorf("case %d: %v, %d, want %v", i, s, e, c.want)
		}
	}
	a, b, e := record.Values(simple())
	if listText(a) != "1-1/2i" || listText(b) != "2i" || e != api.OK {
		t.Errorf("Values: %s, %s, %d", listText(a), listText(b), e)
	}
}

// TestExactSamples is the second sentence of P3.5.
func TestExactSamples(t *testing.T) {
	d := dice(6)
	exact := 0
	for i := range 600 {
		f := d.frame(1)
		if i%2 == 0 { // short mantissas
			f.Scale = math.Float32frombits(math.Float32bits(f.Scale)&^0xffff | 1<<20)
		}
		a, b, _ := record.Values(f)
		s, _ := record.Samples(f)
		for j, x := range []num.Num{a[0], b[0]} {
			near := x.Near64()
			if y, e := num.Complex64(near); e == api.OK && y.Same(x) {
				exact++
				if s[0][j] != near {
					t.Errorf("Samples of %v: %v, want %v", f, s[0][j], near)
				}
			}
		}
	}
	if exact < 100 {
		t.Errorf("%d samples were exact", exact)
	}
}

func TestWear(t *testing.T) {
	mates := func(l ...int) api.Frame {
		return api.Frame{Source: 1, Scale: 1, Mates: l, Pairs: make([]api.Pair, len(l))}
	}
	bad := mates(7, 7)
	bad.Scale = 0
	clipped := mates(0, 50)
	clipped.Pairs[0].A[0] = 32767
	for i, c := range []struct {
		l    []api.Frame
		want []int
		e    api.Errno
	}{
		{nil, nil, api.OK},
		{[]api.Frame{mates(3)}, []int{3}, api.OK},
		{[]api.Frame{mates(0, 0)}, []int{0, 0}, api.OK},
		{[]api.Frame{mates(3), mates(2, 5)}, []int{3, 5}, api.OK},
		{[]api.Frame{mates(2, 5), mates(3), mates(1, 9, 0), mates(4, 6)}, []int{4, 9, 0}, api.OK},
		{[]api.Frame{mates(2, 5), clipped}, []int{2, 50}, api.OK},
		{[]api.Frame{mates(1, 2, 3, 4, 5, 6, 7, 65535)}, []int{1, 2, 3, 4, 5, 6, 7, 65535}, api.OK},
		{[]api.Frame{mates(3), bad}, nil, api.ErrArg},
		{[]api.Frame{bad, mates(3)}, nil, api.ErrArg},
		{[]api.Frame{{}}, nil, api.ErrArg},
	} {
		var want []api.Count
		for k, n := range c.want {
			want = append(want, api.Count{Port: k + 1, Count: n})
		}
		if got, e := record.Wear(c.l); e != c.e || !slices.Equal(got, want) {
			t.Errorf("case %d: %v, %d, want %v, %d", i, got, e, want, c.e)
		}
	}
}
