package network_test

import (
	"math"
	"testing"

	"waveport/api"
	"waveport/network"
	"waveport/num"
)

// ramp returns the sweep of the reflections 0, 1, 2, .. at the frequencies.
func ramp(t testing.TB, f string) network.Sweep[num.Num] {
	t.Helper()
	var l []network.Net[num.Num]
	for i := range list(t, f) {
		l = append(l, made(t, flat(1), [][]num.Num{{num.Int(int64(i))}}))
	}
	s, e := network.NewSweep(list(t, f), l)
	if e != api.OK {
		t.Fatalf("NewSweep at %s: %d", f, e)
	}
	return s
}

// sweepText tells sweeps apart.
func sweepText(s network.Sweep[num.Num]) string {
	text := ""
	for f, n := range s.All() {
		text += f.Text() + ": " + netText(n) + "\n"
	}
	return text
}

// counted returns the numbers 1, 2, 3, ..
func counted(n int) []num.Num {
	l := make([]num.Num, n)
	for i := range l {
		l[i] = num.Int(int64(i + 1))
	}
	return l
}

func TestNewSweep(t *testing.T) {
	a, b, c := net(t, "50", "0"), net(t, "75", "1"), net(t, "50 50", "0 0;0 0")
	var none network.Net[num.Num]
	type nets = []network.Net[num.Num]
	for i, x := range []struct {
		f string
		l nets
		e api.Errno
	}{
		{"", nil, api.OK}, {"1", nets{a}, api.OK}, {"1 2 3", nets{none, none, none}, api.OK},
		{"1", nil, api.ErrSize}, {"", nets{a}, api.ErrSize}, {"1 2", nets{a}, api.ErrSize}, {"-1", nets{a, a}, api.ErrSize},
		{"0", nets{a}, api.ErrArg}, {"-1", nets{a}, api.ErrArg}, {"1i", nets{a}, api.ErrArg}, {"1 2+1i", nets{a, a}, api.ErrArg},
		{"1 1i", nets{a, c}, api.ErrArg}, {"1 -2", nets{a, a}, api.ErrArg}, {"1 0 3", nets{a, c, a}, api.ErrArg},
		{"1 1", nets{a, a}, api.ErrOrder}, {"2 1", nets{a, c}, api.ErrOrder}, {"1 2 2 -1", nets{a, a, b, c}, api.ErrOrder},
		{"1 2", nets{a, c}, api.ErrSize}, {"1 2", nets{c, a}, api.ErrSize}, {"1 2", nets{none, a}, api.ErrSize}, {"1 2", nets{b, none}, api.ErrSize},
		{"1 2 0", nets{a, c, a}, api.ErrSize},
		{"1 2", nets{a, b}, api.ErrImpedance}, {"1 2 3", nets{a, a, b}, api.ErrImpedance}, {"1 2 3", nets{a, b, c}, api.ErrImpedance},
		{"1 2 1", nets{a, b, c}, api.ErrImpedance},
	} {
		s, e := network.NewSweep(list(t, x.f), x.l)
		if e != x.e || e != api.OK && s.Points() != 0 || e == api.OK && s.Points() != len(x.l) {
			t.Errorf("case %d: %d points, %d, want %d", i, s.Points(), e, x.e)
		}
	}
	l := make(nets, 1025)
	f := counted(1025)
	if s, e := network.NewSweep(f[:1024], l[:1024]); e != api.OK || s.Points() != 1024 {
		t.Errorf("1024 points: %d, %d", s.Points(), e)
	}
	f[0] = num.Int(0)
	if s, e := network.NewSweep(f, l); e != api.ErrSize || s.Points() != 0 {
		t.Errorf("1025 points: %d, %d", s.Points(), e)
	}
}

func TestPoints(t *testing.T) {
	f, l := list(t, "1 3/2"), []network.Net[num.Num]{net(t, "50", "1i"), net(t, "50", "2")}
	s, e := network.NewSweep(f, l)
	f[0], l[1] = num.Int(9), l[0]
	if s.Points() != 2 || e != api.OK || sweepText(s) != "1: 50 | 1i\n3/2: 50 | 2\n" {
		t.Errorf("%d points: %s, %d", s.Points(), sweepText(s), e)
	}
	if x, n, e := s.Point(1); x.Text() != "3/2" || netText(n) != "50 | 2" || e != api.OK {
		t.Errorf("Point: %s, %s, %d", x.Text(), netText(n), e)
	}
	if x, n, e := s.Point(0); x.Text() != "1" || netText(n) != "50 | 1i" || e != api.OK {
		t.Errorf("Point: %s, %s, %d", x.Text(), netText(n), e)
	}
	var none network.Sweep[num.Num]
	for _, i := range []int{2, -1, math.MaxInt, math.MinInt} {
		x, n, e := s.Point(i)
		fails(t, "Point", n, e, api.ErrArg)
		y, m, e := none.Point(i)
		fails(t, "Point of no points", m, e, api.ErrArg)
		if x.Clear() || y.Clear() {
			t.Errorf("Point %d has a frequency", i)
		}
	}
	if _, n, e := none.Point(0); e != api.ErrArg || n.Ports() != 0 || none.Points() != 0 || sweepText(none) != "" {
		t.Errorf("no points: %d", e)
	}
}

// TestAll stops an iterator at each point, and uses it again.
func TestAll(t *testing.T) {
	s := ramp(t, "1 2 3 5")
	all := s.All()
	for stop := range 5 {
		seen := 0
		for f, n := range all {
			x, _ := n.At(1, 1)
			g, _, _ := s.Point(seen)
			if !f.Same(g) || !x.Same(num.Int(int64(seen))) {
				t.Errorf("point %d: %s, %s", seen, f.Text(), x.Text())
			}
			seen++
			if seen > stop {
				break
			}
		}
		if seen != min(stop+1, 4) {
			t.Errorf("%d points, stopped at %d", seen, stop)
		}
	}
}

func TestBetween(t *testing.T) {
	s, err := network.NewSweep(list(t, "1 3 4"), []network.Net[num.Num]{net(t, "5 7", "0 1;2 3"), net(t, "5 7", "1 1;1i 0"), net(t, "5 7", "0 0;0 0")})
	if err != api.OK {
		t.Fatalf("NewSweep: %d", err)
	}
	for f, want := range map[string]string{
		"1": "0 1;2 3", "3/2": "1/4 1;3/2+1/4i 9/4", "2": "1/2 1;1+1/2i 3/2", "3": "1 1;1i 0", "31/10": "9/10 9/10;9/10i 0", "4": "0 0;0 0",
	} {
		n, e := network.Between(s, parse(t, f))
		if x := unlike(n, net(t, "5 7", want)); x != "" || e != api.OK {
			t.Errorf("Between at %s: %s, %d", f, x, e)
		}
	}
	var none network.Sweep[num.Num]
	for f, want := range map[string]api.Errno{"0": api.ErrNone, "-2": api.ErrNone, "9999/10000": api.ErrNone, "40001/10000": api.ErrNone, "1i": api.ErrArg, "2+1i": api.ErrArg, "5-1i": api.ErrArg} {
		n, e := network.Between(s, parse(t, f))
		fails(t, "Between at "+f, n, e, want)
		n, e = network.Between(none, parse(t, f))
		fails(t, "Between without points at "+f, n, e, want)
	}
	one := ramp(t, "2")
	if n, e := network.Between(one, num.Int(2)); netText(n) != "50 | 0" || e != api.OK {
		t.Errorf("Between with one point: %s, %d", netText(n), e)
	}
	n, e := network.Between(one, num.Int(3))
	fails(t, "Between behind the only point", n, e, api.ErrNone)
	bare, _ := network.NewSweep(list(t, "1 2"), make([]network.Net[num.Num], 2))
	n, e = network.Between(bare, parse(t, "3/2"))
	fails(t, "Between without ports", n, e, api.OK)
}

func TestResample(t *testing.T) {
	s := ramp(t, "1 2 4")
	r, e := network.Resample(s, list(t, "1 3/2 3 4"))
	if sweepText(r) != "1: 50 | 0\n3/2: 50 | 1/2\n3: 50 | 3/2\n4: 50 | 2\n" || e != api.OK {
		t.Errorf("Resample: %s, %d", sweepText(r), e)
	}
	for f, want := range map[string]api.Errno{
		"0": api.ErrNone, "5": api.ErrNone, "2+1i": api.ErrArg, "2 2": api.ErrOrder, "3 2": api.ErrOrder, "1 2 1": api.ErrOrder,
		"2 1i": api.ErrArg, "2 1+1i": api.ErrArg, "2 1/2": api.ErrNone, "2 1 5": api.ErrOrder, "2 5 1": api.ErrNone, "2 3 9 1i": api.ErrNone, "2 1 1i": api.ErrOrder,
	} {
		r, e := network.Resample(s, list(t, f))
		if e != want || r.Points() != 0 {
			t.Errorf("Resample at %s: %d points, %d, want %d", f, r.Points(), e, want)
		}
	}
	var none network.Sweep[num.Num]
	if r, e := network.Resample(none, nil); r.Points() != 0 || e != api.OK {
		t.Errorf("Resample of nothing: %d", e)
	}
	if r, e := network.Resample(s, nil); r.Points() != 0 || e != api.OK {
		t.Errorf("Resample at no frequencies: %d", e)
	}
	if r, e := network.Resample(none, counted(1)); r.Points() != 0 || e != api.ErrNone {
		t.Errorf("Resample without points: %d", e)
	}
	f := make([]num.Num, 1025)
	for i := range f {
		f[i], _ = num.New(int64(2048+i), 0, 2048)
	}
	r, e = network.Resample(s, f[:1024])
	if x, n, _ := r.Point(1023); r.Points() != 1024 || e != api.OK || x.Text() != "3071/2048" || netText(n) != "50 | 1023/2048" {
		t.Errorf("Resample at 1024 frequencies: %d, %s, %s, %d", r.Points(), x.Text(), netText(n), e)
	}
	f[0] = parse(t, "1i")
	if r, e := network.Resample(s, f); r.Points() != 0 || e != api.ErrSize {
		t.Errorf("Resample at 1025 frequencies: %d, %d", r.Points(), e)
	}
	g := list(t, "1 2")
	r, _ = network.Resample(s, g)
	g[0] = num.Int(7)
	if sweepText(r) != "1: 50 | 0\n2: 50 | 1\n" {
		t.Error("a sweep shares memory with the frequencies")
	}
}

// TestSweeps is P4.8.
func TestSweeps(t *testing.T) {
	d := dice(10)
	for i := range 40 {
		z := d.refs(i%4 + 1)
		var f []num.Num
		var l []network.Net[num.Num]
		last := num.Num{}
		for range d.below(12) + 1 {
			step, _ := num.New(int64(d.below(50)+1), 0, int64(d.below(7)+1))
			last = last.Add(step)
			f, l = append(f, last), append(l, d.net(t, z))
		}
		s, e := network.NewSweep(f, l)
		if e != api.OK {
			t.Fatalf("NewSweep at %s: %d", listText(f), e)
		}
		for k, x := range f {
			n, e := network.Between(s, x)
			if u := unlike(n, l[k]); u != "" || e != api.OK {
				t.Errorf("Between at the point %d: %s, %d", k, u, e)
			}
			if k == 0 {
				continue
			}
			// On the line between two points the differences have the ratio of those of the frequencies.
			y := quotient(x.Add(f[k-1].Mul(num.Int(3))), num.Int(4))
			n, e = network.Between(s, y)
			p, _ := l[k-1].At(1, len(z))
			q, _ := l[k].At(1, len(z))
			if v, _ := n.At(1, len(z)); !v.Same(quotient(q.Add(p.Mul(num.Int(3))), num.Int(4))) || e != api.OK {
				t.Errorf("Between at %s: %s, %d", y.Text(), v.Text(), e)
			}
		}
		r, e := network.Resample(s, f)
		if sweepText(r) != sweepText(s) || r.Points() != len(f) || e != api.OK {
			t.Errorf("Resample to the own frequencies: %d", e)
		}
	}
}
