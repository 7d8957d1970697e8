package noise_test

import (
	"math"
	"testing"

	"waveport/api"
	"waveport/network"
	"waveport/noise"
	"waveport/num"
)

func TestNew(t *testing.T) {
	n, none := net(t, "50 75", "1 2;3 4"), network.Net[num.Num]{}
	x, e := noise.New(n, matrix(t, "5 6i;-7 8+1i"))
	if noisyText(x) != "50 75 | 1 2;3 4 | 5 6i;-7 8+1i" || !network.Equal(x.Net(), n) || e != api.OK {
		t.Errorf("New: %s, %d", noisyText(x), e)
	}
	for _, c := range [][][]num.Num{
		nil, {}, matrix(t, "1 2"), matrix(t, "1 2;3 4;5 6"), matrix(t, "1;2"), matrix(t, "1 2;3"), matrix(t, "1;2 3"), matrix(t, "1 2 3;4 5 6"), matrix(t, "1 2;3 4 5"), {nil, nil},
	} {
		x, e := noise.New(n, c)
		fails(t, "New with "+matrixText(c), x, e, api.ErrSize)
	}
	for _, c := range [][][]num.Num{nil, {}} {
		x, e := noise.New(none, c)
		fails(t, "New without ports", x, e, api.OK)
	}
	for _, c := range [][][]num.Num{{nil}, matrix(t, "1")} {
		x, e := noise.New(none, c)
		fails(t, "New without ports, but with noise", x, e, api.ErrSize)
	}
	eight := num.Identity[num.Num](8)
	if x, e := noise.New(plain(t, flat(8), eight), eight); matrixText(correlation(x)) != matrixText(eight) || e != api.OK {
		t.Errorf("New with eight ports: %d", e)
	}
}

func TestAt(t *testing.T) {
	x, none := noisy(t, "50 75", "1 2;3 4", "5 6;7 8"), noise.Noisy[num.Num]{}
	for _, c := range []struct {
		i, k int
		want string
	}{{1, 1, "5"}, {1, 2, "6"}, {2, 1, "7"}, {2, 2, "8"}} {
		if y, e := x.At(c.i, c.k); y.Text() != c.want || e != api.OK {
			t.Errorf("At(%d, %d): %s, %d", c.i, c.k, y.Text(), e)
		}
	}
	for _, p := range []int{0, -1, 3, 9, math.MaxInt, math.MinInt} {
		a, e := x.At(p, 1)
		b, f := x.At(2, p)
		c, g := none.At(p, p)
		if a.Clear() || b.Clear() || c.Clear() || e != api.ErrArg || f != api.ErrArg || g != api.ErrArg {
			t.Errorf("port %d: %d, %d, %d", p, e, f, g)
		}
	}
	if y, e := none.At(1, 1); y.Clear() || e != api.ErrArg || none.Net().Ports() != 0 {
		t.Errorf("no ports: %d", e)
	}
}

func TestEqual(t *testing.T) {
	x, none := noisy(t, "50 75", "1 2;3 4", "5 6;7 8"), noise.Noisy[num.Num]{}
	if !noise.Equal(x, noisy(t, "100/2 75", "1 2;3 8/2", "5 6;14/2 8")) || !noise.Equal(none, none) {
		t.Error("equal networks")
	}
	for _, y := range []noise.Noisy[num.Num]{
		none, noisy(t, "50", "1", "5"), noisy(t, "50 76", "1 2;3 4", "5 6;7 8"), noisy(t, "50 75", "1 2;3 5", "5 6;7 8"),
		noisy(t, "50 75", "1 2;3 4", "0 6;7 8"), noisy(t, "50 75", "1 2;3 4", "5 6i;7 8"), noisy(t, "50 75", "1 2;3 4", "5 6;8 8"), noisy(t, "50 75", "1 2;3 4", "5 6;7 9"), noisy(t, "50 75", "1 2;3 4", "5 7;6 8"),
	} {
		if noise.Equal(x, y) || noise.Equal(y, x) {
			t.Errorf("%s is %s", noisyText(y), noisyText(x))
		}
	}
}

func TestQuiet(t *testing.T) {
	n := net(t, "50 75", "1 2;3 4")
	if q := noise.Quiet(n); unlike(q, noisy(t, "50 75", "1 2;3 4", "0 0;0 0")) != "" {
		t.Errorf("Quiet: %s", noisyText(q))
	}
	if q := noise.Quiet(network.Net[num.Num]{}); !noise.Equal(q, noise.Noisy[num.Num]{}) {
		t.Errorf("Quiet without ports: %s", noisyText(q))
	}
}

func TestOwn(t *testing.T) {
	for _, c := range []struct{ z, s, temp, want string }{
		{"50", "0", "290", "14500"},
		{"50", "-1", "290", "0"},
		{"50", "1", "290", "0"},
		{"50", "3/5+4/5i", "290", "0"},
		{"50", "1/2i", "290", "10875"},
		{"50", "2", "1", "-150"},
		{"50 50", "0 1/2;1/2 0", "290", "10875 0;0 10875"},
		{"50 50", "0 1/2;1/2 0", "0", "0 0;0 0"},
		{"50 50", "1/2 1/2;1/2 1/2", "2/3", "50/3 -50/3;-50/3 50/3"},
		{"50 100", "0 0;1i 0", "290", "14500 0;0 14500"},
		{"1 2", "0 1;1i 1", "3", "-3 -6;-6 -3"},
		{"1 2", "0 1;0 1i", "3", "-3 6i;-6i 0"},
	} {
		n := net(t, c.z, c.s)
		x, e := noise.Own(n, parse(t, c.temp))
		is(t, "Own of "+c.s+" at "+c.temp, x, e, made(t, n, matrix(t, c.want)))
	}
	none := network.Net[num.Num]{}
	for _, temp := range []string{"-1", "1i", "-1/1000000000000", "290+1i", "-2i"} {
		x, e := noise.Own(net(t, "50", "0"), parse(t, temp))
		fails(t, "Own at "+temp, x, e, api.ErrArg)
		x, e = noise.Own(none, parse(t, temp))
		fails(t, "Own without ports at "+temp, x, e, api.ErrArg)
	}
	x, e := noise.Own(none, num.Int(290))
	fails(t, "Own without ports", x, e, api.OK)
}

// TestOwnOfAny compares Own with sums over elements.
func TestOwnOfAny(t *testing.T) {
	d := dice(1)
	for i := range 40 {
		n, temp := d.net(t, d.refs(i%5+1)), d.kelvin()
		z, s, c := refs(n), elements(n), correlation(own(t, n, temp))
		for i, row := range c {
			for k, x := range row {
				var want num.Num
				if i == k {
					want = z[i]
				}
				for m := range z {
					want = want.Sub(s[i][m].Mul(z[m]).Mul(s[k][m].Conj()))
				}
				if !x.Same(want.Mul(temp)) {
					t.Errorf("Own: element %d, %d is %s, want %s", i, k, x.Text(), want.Mul(temp).Text())
				}
			}
		}
	}
}

// spoil overwrites lists, also behind their ends.
func spoil(l ...[]num.Num) {
	for _, row := range l {
		for k := range row[:cap(row)] {
			row[:cap(row)][k] = num.Int(99)
		}
	}
}

// TestNoisesStay is R4: it changes what networks were made of, and what was computed from them.
func TestNoisesStay(t *testing.T) {
	const text = "50 75 | 1 2;3 4 | 5 6;6 7"
	z, c := list(t, "50 75"), matrix(t, "5 6;6 7")
	n := net(t, "50 75", "1 2;3 4")
	x := made(t, n, c)
	r, e := noise.Renormalize(x, z)
	spoil(z)
	spoil(c...)
	if noisyText(x) != text || noisyText(r) != text || e != api.OK {
		t.Errorf("a network shares memory with an argument: %s, %s", noisyText(x), noisyText(r))
	}
	_, witness := noise.Possible(x)
	spoil(witness)
	noise.Join(x, nil)
	noise.Terminate(x, 1, num.Int(3), num.Int(4))
	noise.Renumber(x, []int{2, 1})
	noise.Stack(x, r)
	noise.Thermal(x)
	noise.Factor(x, num.Int(0), num.Int(1))
	if noisyText(x) != text || noisyText(r) != text || len(witness) != 2 {
		t.Errorf("a network has changed: %s, %s", noisyText(x), noisyText(r))
	}
}

// TestArgumentsStay is R4: it looks at the arguments, also behind their ends.
func TestArgumentsStay(t *testing.T) {
	z, c := list(t, "50 50 7"), matrix(t, "2 1 7;1 3 7")
	order, joints := [3]int{2, 1, 7}, [2][2]int{{1, 3}, {7, 7}}
	x, e := noise.New(net(t, "50 50", "0 1/2;1/3 1/4"), [][]num.Num{c[0][:2], c[1][:2]})
	noise.Renormalize(x, z[:2])
	noise.Renumber(x, order[:2])
	both, _ := noise.Stack(x, x)
	noise.Join(both, joints[:1])
	if listText(z) != "50 50 7" || matrixText(c) != "2 1 7;1 3 7" || order != [3]int{2, 1, 7} || joints != [2][2]int{{1, 3}, {7, 7}} || e != api.OK {
		t.Errorf("%s, %s, %v, %v, %d", listText(z), matrixText(c), order, joints, e)
	}
	l := []noise.Entry{{Freq: num.Int(1), Value: num.Int(2)}, {Freq: num.Int(3), Value: num.Int(4)}, {Freq: num.Int(9), Value: num.Int(9)}}
	noise.Lookup(l[:2], num.Int(2))
	levels := []api.Level{{In: 1, Out: 1}, {In: 2, Out: 1}, {In: 9, Out: 9}}
	gains, _ := noise.Gain(levels[:2])
	noise.Compression(levels[:2], quotient(num.Int(2), num.Int(3)))
	spoil(gains)
	for i, want := range []noise.Entry{{Freq: num.Int(1), Value: num.Int(2)}, {Freq: num.Int(3), Value: num.Int(4)}, {Freq: num.Int(9), Value: num.Int(9)}} {
		if !l[i].Freq.Same(want.Freq) || !l[i].Value.Same(want.Value) {
			t.Errorf("entry %d has changed", i)
		}
	}
	if levels[0] != (api.Level{In: 1, Out: 1}) || levels[1] != (api.Level{In: 2, Out: 1}) || levels[2] != (api.Level{In: 9, Out: 9}) {
		t.Errorf("levels %v", levels)
	}
}
