package record_test

import (
	"math"
	"math/big"
	"testing"

	"waveport/api"
	"waveport/box"
	"waveport/num"
	"waveport/record"
)

func TestRaw(t *testing.T) {
	d := dice(15)
	wide := num.Identity[num.Num](32)
	for i, c := range []struct {
		a, b [][]num.Num
		want string
		e    api.Errno
	}{
		{matrix(t, "1 1;0 2"), matrix(t, "2 4;1 5"), "2 1;1 2", api.OK},
		{matrix(t, "2i"), matrix(t, "1"), "-1/2i", api.OK},
		{matrix(t, "0 1;1 0"), matrix(t, "1 2;3 4"), "2 1;4 3", api.OK},
		{nil, nil, "", api.OK},
		{[][]num.Num{}, nil, "", api.OK},
		{wide, wide, matrixText(wide), api.OK},
		{matrix(t, "1 1;1 1"), matrix(t, "1 0;0 1"), "", api.ErrSingular},
		{matrix(t, "0"), matrix(t, "1"), "", api.ErrSingular},
		{matrix(t, "1"), matrix(t, "0"), "0", api.OK},
		{matrix(t, "0"), matrix(t, "1 2;3 4"), "", api.ErrSize},
		{matrix(t, "1 0;0 1"), matrix(t, "1"), "", api.ErrSize},
		{matrix(t, "1"), nil, "", api.ErrSize},
		{nil, matrix(t, "1"), "", api.ErrSize},
		{d.matrix(2, 3), d.matrix(2, 3), "", api.ErrSize},
		{d.matrix(3, 2), d.matrix(3, 2), "", api.ErrSize},
		{matrix(t, "1 0;0 1"), d.matrix(2, 3), "", api.ErrSize},
		{matrix(t, "1 0;0 1"), d.matrix(3, 2), "", api.ErrSize},
		{matrix(t, "1 0;0 1"), d.matrix(2, 1), "", api.ErrSize},
		{matrix(t, "0 0;0 0"), d.matrix(2, 3), "", api.ErrSize},
		{matrix(t, "1 2;3"), matrix(t, "1 2;3 4"), "", api.ErrSize},
		{matrix(t, "1 2;3 4"), matrix(t, "1 2;3"), "", api.ErrSize},
		{make([][]num.Num, 1), matrix(t, "1"), "", api.ErrSize},
		{matrix(t, "1"), make([][]num.Num, 1), "", api.ErrSize},
		{d.matrix(33, 33), d.matrix(33, 33), "", api.ErrSize},
	} {
		m, e := record.Raw(c.a, c.b)
		if e != c.e || matrixText(m) != c.want {
			t.Errorf("case %d: %s, %d, want %s, %d", i, matrixText(m), e, c.want, c.e)
		}
	}
}

// TestRawMatrices is P3.6.
func TestRawMatrices(t *testing.T) {
	d := dice(16)
	for i := range 60 {
		ports := i%8 + 1
		w := d.waves(3, ports)
		var want [][][]num.Num
		e := api.OK
		for k, a := range w.A {
			if i%5 == 1 && k == i%3 { // no inverse
				a[ports-1] = append([]num.Num(nil), a[0]...)
				if ports == 1 {
					a[0][0] = num.Num{}
				}
			}
			if det, _ := num.Det(a); !det.Clear() {
				e = api.ErrSingular
			}
			m := d.matrix(ports, ports)
			want = append(want, m)
			w.B[k], _ = num.Product(m, a)
		}
		if e != api.OK {
			want = nil
		}
		got, f := record.Raws(w)
		if f != e || matricesText(got) != matricesText(want) {
			t.Errorf("sweep %d: %s, %d, want %s, %d", i, matricesText(got), f, matricesText(want), e)
		}
	}
}

// TestRawEncloses is P3 for Raw: it takes the steps of num's functions, and encloses.
func TestRawEncloses(t *testing.T) {
	d := dice(17)
	fine := 0
	for i := range 100 {
		n := i%4 + 1
		a, b := d.matrix(n, n), d.matrix(n, n)
		x, y := widened(t, &d, a), widened(t, &d, b)
		exact, e := record.Raw(a, b)
		boxes, f := record.Raw(x, y)
		inverse, g := num.Inverse(x)
		if f != g {
			t.Errorf("pair %d: %d, want %d", i, f, g)
		}
		if f != api.OK {
			continue
		}
		fine++
		steps, _ := num.Product(y, inverse)
		if e != api.OK {
			t.Errorf("pair %d: %d, but boxes have a result", i, e)
		}
		for r := range n {
			for c := range n {
				if !boxes[r][c].Has(exact[r][c]) || !boxes[r][c].Same(steps[r][c]) {
					t.Errorf("pair %d: %v, want %v around %s", i, boxes[r][c], steps[r][c], exact[r][c].Text())
				}
			}
		}
	}
	if fine < 50 {
		t.Errorf("%d of 100 have a result", fine)
	}
	zero, _ := box.Make(-1, 1)
	if m, e := record.Raw([][]box.Box{{zero}}, [][]box.Box{{zero}}); e != api.ErrSingular || len(m) > 0 {
		t.Errorf("Raw of a box with 0: %v, %d", m, e)
	}
}

// widened returns boxes around numbers.
func widened(t *testing.T, d *dice, m [][]num.Num) [][]box.Box {
	w := float64(d.below(3)) * 0x1p-20
	around, e := box.Make(complex(-w, -w), complex(w, w))
	if e != api.OK {
		t.Fatalf("Make: %d", e)
	}
	out := num.Lift[box.Box](m)
	for _, row := range out {
		for k := range row {
			row[k] = row[k].Add(around)
		}
	}
	return out
}

func TestPower(t *testing.T) {
	inf := float32(math.Inf(1))
	for _, c := range []struct {
		w, z string
		want float32
		e    api.Errno
	}{
		{"3+4i", "50", 0.5, api.OK},
		{"-3i", "1/2", 18, api.OK},
		{"0", "50", 0, api.OK},
		{"1", "3", 0x1.555556p-2, api.OK},
		{"1", "1e-38", 1e38, api.OK},
		{"1", "1e-39", inf, api.OK},
		{"1", "1e50", 0, api.OK},
		{"1", "16777216/16777217", 1, api.OK}, // half way between 1 and the next float32
		{"1", "16777216/16777219", 0x1.000004p+0, api.OK},
		{"1", "50i", 0, api.ErrArg},
		{"1", "50+1i", 0, api.ErrArg},
		{"1", "0", 0, api.ErrArg},
		{"1", "-50", 0, api.ErrArg},
	} {
		if p, e := record.Power(parse(t, c.w), parse(t, c.z)); p != c.want || e != c.e {
			t.Errorf("Power of %s at %s: %v, %d, want %v, %d", c.w, c.z, p, e, c.want, c.e)
		}
	}
	d := dice(18)
	for range 200 {
		re, im, z := big.NewRat(int64(d.below(2001)-1000), int64(d.below(999)+1)), big.NewRat(int64(d.below(2001)-1000), int64(d.below(999)+1)), big.NewRat(int64(d.below(1000)+1), int64(d.below(999)+1))
		w := fraction(t, re).Add(fraction(t, im).Mul(parse(t, "1i")))
		norm := new(big.Rat).Mul(re, re)
		norm.Add(norm, new(big.Rat).Mul(im, im))
		want := rounded(norm.Quo(norm, z))
		if p, e := record.Power(w, fraction(t, z)); p != want || e != api.OK {
			t.Errorf("Power of %s at %s: %v, %d, want %v", w.Text(), z, p, e, want)
		}
	}
}

func TestLevel(t *testing.T) {
	w := record.Waves{
		Freqs: counted(2),
		A:     [][][]num.Num{matrix(t, "1 100;100 1+1i"), matrix(t, "2i 100;100 1/2")},
		B:     [][][]num.Num{matrix(t, "100 100;100 100"), matrix(t, "100 100;100 100")},
	}
	nan, inf := float32(math.NaN()), float32(math.Inf(1))
	for _, c := range []struct {
		z             string
		limit         float32
		point, source int
		over          bool
		e             api.Errno
	}{
		{"2", 0, 0, 1, true, api.OK},
		{"2", float32(math.Copysign(0, -1)), 0, 1, true, api.OK},
		{"2", 0.49, 0, 1, true, api.OK},
		{"2", 0.5, 0, 2, true, api.OK},
		{"2", 1, 1, 1, true, api.OK},
		{"2", 1.9999999, 1, 1, true, api.OK},
		{"2", 2, 0, 0, false, api.OK},
		{"20", 0.1, 1, 1, true, api.OK},   // the float32 0.1 is above 1/10
		{"20", 0.2, 0, 0, false, api.OK},  // likewise
		{"40", 0.025, 0, 2, true, api.OK}, // the float32 0.025 is above 1/40
		{"2", math.MaxFloat32, 0, 0, false, api.OK},
		{"1e-40", math.MaxFloat32, 0, 1, true, api.OK},
		{"2", -1, 0, 0, false, api.ErrArg},
		{"2", -math.SmallestNonzeroFloat32, 0, 0, false, api.ErrArg},
		{"2", nan, 0, 0, false, api.ErrArg},
		{"2", inf, 0, 0, false, api.ErrArg},
		{"2", -inf, 0, 0, false, api.ErrArg},
		{"0", 1, 0, 0, false, api.ErrArg},
		{"-2", 1, 0, 0, false, api.ErrArg},
		{"2i", 1, 0, 0, false, api.ErrArg},
		{"2+1i", 1, 0, 0, false, api.ErrArg},
	} {
		k, s, over, e := record.Level(w, parse(t, c.z), c.limit)
		if k != c.point || s != c.source || over != c.over || e != c.e {
			t.Errorf("Level %v at %s: %d, %d, %v, %d, want %d, %d, %v, %d", c.limit, c.z, k, s, over, e, c.point, c.source, c.over, c.e)
		}
	}
}
