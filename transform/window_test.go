package transform_test

import (
	"math"
	"strconv"
	"testing"

	"waveport/api"
	"waveport/num"
	"waveport/transform"
)

func TestWindow(t *testing.T) {
	for _, c := range []struct {
		kind, n int
		want    string
	}{
		{api.WindowFlat, 1, "1"},
		{api.WindowFlat, 3, "1 1 1"},
		{api.WindowTriangle, 1, "1"},
		{api.WindowTriangle, 2, "2/3 2/3"},
		{api.WindowTriangle, 3, "1/2 1 1/2"},
		{api.WindowTriangle, 5, "1/3 2/3 1 2/3 1/3"},
		{api.WindowParabola, 1, "1"},
		{api.WindowParabola, 2, "8/9 8/9"},
		{api.WindowParabola, 3, "3/4 1 3/4"},
		{api.WindowParabola, 4, "16/25 24/25 24/25 16/25"},
	} {
		w, e := transform.Window(c.kind, c.n)
		is(t, "Window "+strconv.Itoa(c.kind)+" of "+strconv.Itoa(c.n), w, e, c.want)
	}
	for _, n := range append([]int{65, 128}, math.MinInt, -1, 0, math.MaxInt) {
		for kind := -1; kind <= 3; kind++ {
			w, e := transform.Window(kind, n)
			fails(t, "Window of "+strconv.Itoa(n), w, e, api.ErrSize)
		}
	}
	for _, kind := range []int{math.MinInt, -1, 3, 4, math.MaxInt} {
		for n := 1; n <= 64; n++ {
			w, e := transform.Window(kind, n)
			fails(t, "Window "+strconv.Itoa(kind), w, e, api.ErrArg)
		}
	}
}

// TestWeights is P7.7, and compares with the chapter's formulas.
func TestWeights(t *testing.T) {
	one := num.Int(1)
	for kind := range 3 {
		for n := 1; n <= 64; n++ {
			w, e := transform.Window(kind, n)
			if e != api.OK || len(w) != n {
				t.Errorf("Window %d of %d: %d, %d", kind, n, len(w), e)
				continue
			}
			for k, x := range w {
				d := fraction(2*k-n+1, n+1)
				want := one
				switch {
				case kind == api.WindowTriangle && d.Cmp(num.Num{}) < 0:
					want = one.Add(d)
				case kind == api.WindowTriangle:
					want = one.Sub(d)
				case kind == api.WindowParabola:
					want = one.Sub(d.Mul(d))
				}
				if !x.Same(want) || !x.Real() || x.Cmp(num.Num{}) <= 0 || x.Cmp(one) > 0 || !x.Same(w[n-1-k]) {
					t.Errorf("Window %d of %d, weight %d: %s, want %s", kind, n, k, x.Text(), want.Text())
				}
			}
		}
	}
}

func TestWeigh(t *testing.T) {
	l, e := transform.Weigh(list(t, "2 4i 6 1-1i"), list(t, "1/2 1 1/3 -2i"))
	is(t, "Weigh", l, e, "1 4i 2 -2-2i")
	l, e = transform.Times(list(t, "2 1i 1-1i"), list(t, "3 1i 1+1i"))
	is(t, "Times", l, e, "6 -1 2")
	d := dice(4)
	for n := range 67 {
		for m := range 67 {
			x, f := d.list(n), d.list(m)
			w, e1 := transform.Weigh(x, f)
			y, e2 := transform.Times(x, f)
			if n != m || n > 64 {
				fails(t, "Weigh", w, e1, api.ErrSize)
				fails(t, "Times", y, e2, api.ErrSize)
				continue
			}
			want := zip(x, f, num.Num.Mul)
			like(t, "Weigh of "+strconv.Itoa(n), w, e1, want)
			like(t, "Times of "+strconv.Itoa(n), y, e2, want)
		}
	}
}
