package noise_test

import (
	"math"
	"testing"

	"waveport/api"
	"waveport/noise"
	"waveport/num"
)

// levels returns the power sweep with these powers: put in, come out, put in, ..
func levels(p ...float32) []api.Level {
	var l []api.Level
	for i := 0; i < len(p); i += 2 {
		l = append(l, api.Level{In: p[i], Out: p[i+1]})
	}
	return l
}

// risen returns a power sweep of n levels with the gain 2.
func risen(n int) []api.Level {
	l := make([]api.Level, n)
	for i := range l {
		l[i] = api.Level{In: float32(i + 1), Out: float32(2*i + 2)}
	}
	return l
}

func TestGain(t *testing.T) {
	const least, most = math.SmallestNonzeroFloat32, math.MaxFloat32
	for _, c := range []struct {
		l    []api.Level
		want string
	}{
		{levels(1, 10, 2, 20, 3, 24), "10 10 8"}, {levels(0.5, 0.75), "3/2"}, {levels(3, 1), "1/3"}, {levels(0.1, 1), "134217728/13421773"},
		{levels(least, 2*least, 2*least, least), "2 1/2"}, {levels(most/2, most, most, most), "2 1"},
	} {
		if g, e := noise.Gain(c.l); listText(g) != c.want || e != api.OK {
			t.Errorf("Gain of %v: %s, %d, want %s", c.l, listText(g), e, c.want)
		}
	}
	if g, e := noise.Gain(risen(256)); len(g) != 256 || !g[255].Same(num.Int(2)) || e != api.OK {
		t.Errorf("256 levels: %d, %d", len(g), e)
	}
}

// TestLevels has what is no power sweep.
func TestLevels(t *testing.T) {
	inf, nan := float32(math.Inf(1)), float32(math.NaN())
	for _, c := range []struct {
		l []api.Level
		e api.Errno
	}{
		{nil, api.ErrSize}, {[]api.Level{}, api.ErrSize}, {risen(257), api.ErrSize}, {make([]api.Level, 257), api.ErrSize},
		{levels(1, 0), api.ErrArg}, {levels(0, 1), api.ErrArg}, {levels(-1, 1), api.ErrArg}, {levels(1, -1), api.ErrArg}, {levels(inf, 1), api.ErrArg}, {levels(1, inf), api.ErrArg}, {levels(-inf, 1), api.ErrArg}, {levels(nan, 1), api.ErrArg}, {levels(1, nan), api.ErrArg},
		{levels(1, 1, 2, nan), api.ErrArg}, {levels(1, 1, nan, 1), api.ErrArg}, {levels(2, 1, 1, 0), api.ErrArg}, {levels(1, 0, 1, 1), api.ErrArg}, {levels(1, 1, 2, 1, 2, inf), api.ErrArg},
		{levels(1, 1, 1, 2), api.ErrOrder}, {levels(2, 1, 1, 2), api.ErrOrder}, {levels(1, 1, 2, 2, 2, 3, 4, 0), api.ErrOrder}, {levels(1, 1, 3, 1, 2, 1), api.ErrOrder},
	} {
		if g, e := noise.Gain(c.l); len(g) != 0 || e != c.e {
			t.Errorf("Gain of %v: %d, want %d", c.l, e, c.e)
		}
		for _, fraction := range []string{"1/2", "2", "1i"} { // a wrong fraction does not matter
			x, e := noise.Compression(c.l, parse(t, fraction))
			result(t, "Compression with "+fraction, x, e, "0", c.e)
		}
	}
}

func TestCompression(t *testing.T) {
	l := levels(1, 10, 2, 20, 3, 24)
	for _, c := range []struct {
		l              []api.Level
		fraction, want string
		e              api.Errno
	}{
		{l, "9/10", "12/5", api.OK}, {l, "4/5", "3", api.OK}, {l, "17/20", "8/3", api.OK}, {l, "999999/1000000", "1200000/599999", api.OK},
		{l, "79/100", "0", api.ErrNone}, {l, "1/2", "0", api.ErrNone}, {l, "1e-300", "0", api.ErrNone},
		{levels(1, 10, 2, 11, 3, 29, 4, 20), "2/3", "27/17", api.OK},                      // the gain rises again
		{levels(1, 10, 2, 30, 3, 29, 4, 20), "9/10", "56/18", api.OK},                     // it rises at first
		{levels(2, 10, 3, 9), "4/5", "12/5", api.OK},                                      // the power falls
		{levels(1, 1, 2, 1), "1/2", "2", api.OK}, {levels(1, 1), "1/2", "0", api.ErrNone}, // none is below the bound
		{l, "1", "0", api.ErrArg}, {l, "0", "0", api.ErrArg}, {l, "-1/2", "0", api.ErrArg}, {l, "3/2", "0", api.ErrArg}, {l, "1/2i", "0", api.ErrArg}, {l, "1/2+1i", "0", api.ErrArg}, {levels(1, 1), "1", "0", api.ErrArg},
	} {
		x, e := noise.Compression(c.l, parse(t, c.fraction))
		want, _ := num.Parse(c.want)
		result(t, "Compression with "+c.fraction, x, e, want.Text(), c.e)
	}
	decibel, _ := num.New(api.OneDBNum, 0, api.OneDBDen)
	x, e := noise.Compression(l, decibel)
	result(t, "Compression by a decibel", x, e, "0", api.ErrNone)
	x, e = noise.Compression(levels(1, 10, 2, 15), decibel)
	result(t, "Compression by a decibel", x, e, "5000/2943", api.OK)
}

// TestCompressed is P5.7 for power sweeps.
func TestCompressed(t *testing.T) {
	d := dice(13)
	found := 0
	for i := range 100 {
		l := make([]api.Level, i%20+1)
		flat := make([]api.Level, len(l))
		in := float32(0)
		for k := range l {
			in += float32(d.below(8) + 1)
			l[k], flat[k] = api.Level{In: in, Out: in * float32(40-k-d.below(10))}, api.Level{In: in, Out: 3 * in}
		}
		fraction := quotient(num.Int(int64(d.below(70)+30)), num.Int(100))
		x, e := noise.Compression(flat, fraction)
		result(t, "Compression with constant gain", x, e, "0", api.ErrNone)
		gains, _ := noise.Gain(l)
		bound := gains[0].Mul(fraction)
		at := 0
		for at < len(l) && gains[at].Cmp(bound) > 0 {
			at++
		}
		x, e = noise.Compression(l, fraction)
		if at == len(l) {
			result(t, "Compression", x, e, "0", api.ErrNone)
			continue
		}
		found++
		p, a := num.Int(int64(l[at-1].In)), num.Int(int64(l[at].In))
		q, b := num.Int(int64(l[at-1].Out)), num.Int(int64(l[at].Out))
		out := q.Add(b.Sub(q).Mul(quotient(x.Sub(p), a.Sub(p))))
		if e != api.OK || x.Cmp(p) <= 0 || x.Cmp(a) > 0 || !out.Same(bound.Mul(x)) {
			t.Errorf("Compression of %v with %s: %s, %d", l, fraction.Text(), x.Text(), e)
		}
	}
	if found < 40 {
		t.Errorf("%d of 100 are compressed", found)
	}
}

func TestIntercept(t *testing.T) {
	for _, c := range []struct {
		p1, p3, want string
		e            api.Errno
	}{
		{"4", "1/2", "128", api.OK}, {"1/3", "2", "1/54", api.OK}, {"1", "1", "1", api.OK},
		{"0", "1", "0", api.ErrArg}, {"1", "0", "0", api.ErrArg}, {"-1", "1", "0", api.ErrArg}, {"1", "-1", "0", api.ErrArg}, {"1i", "1", "0", api.ErrArg}, {"1", "1i", "0", api.ErrArg}, {"1+1i", "1", "0", api.ErrArg}, {"1", "1-1i", "0", api.ErrArg},
	} {
		x, e := noise.Intercept(parse(t, c.p1), parse(t, c.p3))
		result(t, "Intercept of "+c.p1+" and "+c.p3, x, e, c.want, c.e)
	}
}
