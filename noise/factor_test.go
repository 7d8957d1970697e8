package noise_test

import (
	"math"
	"testing"

	"waveport/api"
	"waveport/noise"
	"waveport/num"
)

// result tests a number and an error; with an error the number has to be 0.
func result(t *testing.T, what string, x num.Num, e api.Errno, want string, f api.Errno) {
	t.Helper()
	if x.Text() != want || e != f || e != api.OK && x.Clear() {
		t.Errorf("%s: %s, %d, want %s, %d", what, x.Text(), e, want, f)
	}
}

func TestFactor(t *testing.T) {
	line := own(t, net(t, "50 50", "0 1/2;1/2 0"), num.Int(290))
	for _, c := range []struct {
		n           noise.Noisy[num.Num]
		g, t0, want string
		e           api.Errno
	}{
		{line, "0", "290", "4", api.OK},
		{line, "0", "145", "7", api.OK},
		{line, "1/2", "290", "21/4", api.OK}, // the source sends the noise of port 1 back
		{noise.Quiet(line.Net()), "1/2i", "290", "1", api.OK},
		{noisy(t, "50 50", "0 0;2 0", "100 0;0 0"), "1/2", "1", "5/3", api.OK},
		{noisy(t, "100 50", "0 0;2 0", "100 0;0 0"), "1/2", "1", "4/3", api.OK}, // the impedance of the source counts
		{noisy(t, "50 100", "0 0;2 0", "100 0;0 0"), "1/2", "1", "5/3", api.OK},
		{noisy(t, "2 1", "1i 0;1 0", "3 1i;-1i 5"), "1/2", "1", "16/3", api.OK}, // 3/4 + 25/4 - 1/2 over 3/2
		{line, "1", "290", "0", api.ErrZero},
		{line, "3/5+4/5i", "290", "0", api.ErrZero},
		{line, "2", "290", "-1", api.OK},
		{noisy(t, "50 50", "0 1;0 0", "1 0;0 1"), "0", "290", "0", api.ErrZero},
		{line, "0", "0", "0", api.ErrArg}, {line, "0", "-1", "0", api.ErrArg}, {line, "1", "290i", "0", api.ErrArg}, {line, "0", "290+1i", "0", api.ErrArg},
		{noisy(t, "50", "0", "1"), "0", "0", "0", api.ErrArg}, {noisy(t, "50", "0", "1"), "1", "290", "0", api.ErrSize},
		{noisy(t, "5 5 5", "0 0 0;1 0 0;0 0 0", "0 0 0;0 0 0;0 0 0"), "0", "290", "0", api.ErrSize}, {noise.Noisy[num.Num]{}, "0", "290", "0", api.ErrSize},
	} {
		f, e := noise.Factor(c.n, parse(t, c.g), parse(t, c.t0))
		result(t, "Factor with "+c.g+" at "+c.t0+" of "+noisyText(c.n), f, e, c.want, c.e)
	}
}

// TestFactorOfAny is P5.1 for Factor: it connects a source, and compares the noise that leaves port 2 with that of a device without noise.
func TestFactorOfAny(t *testing.T) {
	d := dice(4)
	fine := 0
	for range 80 {
		z := d.refs(2)
		n, g, t0 := d.noisy(t, z), d.small(), num.Int(int64(d.below(400)+1))
		f, e := noise.Factor(n, g, t0)
		source := own(t, plain(t, z[:1], [][]num.Num{{g}}), t0)
		level := func(n noise.Noisy[num.Num]) (num.Num, api.Errno) {
			s, _ := noise.Stack(source, n)
			s, e := noise.Join(s, [][2]int{{1, 2}})
			if e != api.OK {
				return num.Num{}, e
			}
			return s.At(1, 1)
		}
		all, e1 := level(n)
		part, e2 := level(noise.Quiet(n.Net()))
		if e1 != api.OK || e2 != api.OK {
			continue
		}
		if !part.Clear() {
			result(t, "Factor", f, e, "0", api.ErrZero)
			continue
		}
		fine++
		result(t, "Factor", f, e, quotient(all, part).Text(), api.OK)
	}
	if fine < 50 {
		t.Errorf("%d of 80 exist", fine)
	}
}

func TestPossible(t *testing.T) {
	for _, c := range []struct {
		c    string
		ok   bool
		size int
	}{
		{"0 0;0 0", true, 0}, {"1 1;1 1", true, 0}, {"1 1i;-1i 2", true, 0}, {"1 2;2 4", true, 0},
		{"1 2;2 1", false, 2}, {"-1 0;0 0", false, 2}, {"0 1i;-1i 5", false, 2}, {"1 2;2 3", false, 2},
		{"1 1i;1i 2", false, 0}, {"1 1;0 1", false, 0}, {"1i 0;0 1", false, 0}, {"-1 1;0 -1", false, 0},
	} {
		ok, w := noise.Possible(noisy(t, "50 50", "0 0;0 0", c.c))
		if ok != c.ok || len(w) != c.size {
			t.Errorf("Possible of %s: %v, %s", c.c, ok, listText(w))
			continue
		}
		if form, _ := num.Form(matrix(t, c.c), w); len(w) > 0 && (!form.Real() || form.Cmp(num.Int(0)) >= 0) {
			t.Errorf("the form of %s at %s is %s", c.c, listText(w), form.Text())
		}
	}
	if ok, w := noise.Possible(noise.Noisy[num.Num]{}); !ok || len(w) != 0 {
		t.Errorf("Possible without ports: %v, %s", ok, listText(w))
	}
}

func TestThermal(t *testing.T) {
	for _, c := range []struct {
		n    noise.Noisy[num.Num]
		want string
		ok   bool
	}{
		{own(t, net(t, "50 50", "0 1/2;1/2 0"), num.Int(290)), "290", true},
		{own(t, net(t, "50 75", "1/3 1/2i;1/5 0"), parse(t, "1/7")), "1/7", true},
		{own(t, net(t, "50 50", "0 1/2;1/2 0"), num.Int(0)), "0", true},
		{own(t, net(t, "50 50", "0 1;0 1"), num.Int(5)), "5", true},  // only one element is not 0
		{own(t, net(t, "50 50", "-1 0;0 0"), num.Int(5)), "5", true}, // the first element is 0
		{own(t, net(t, "50", "2"), num.Int(5)), "5", true},           // it is not passive
		{noisy(t, "50", "0", "75"), "3/2", true},
		{noisy(t, "50", "-1", "0"), "0", true},
		{noisy(t, "50", "2", "-300"), "2", true},
		{noisy(t, "50 50", "0 1;1 0", "0 0;0 0"), "0", true},
		{noisy(t, "50", "-1", "1"), "0", false},
		{noisy(t, "50", "0", "-50"), "0", false},
		{noisy(t, "50", "0", "50i"), "0", false},
		{noisy(t, "50 50", "0 0;0 0", "50i 0;0 50i"), "0", false},
		{noisy(t, "50 50", "0 0;0 0", "50 0;0 100"), "0", false},
		{noisy(t, "50 50", "0 0;0 0", "50 1;1 50"), "0", false},
		{noisy(t, "50 50", "0 0;0 0", "0 0;0 50"), "0", false},
		{noisy(t, "50 50", "-1 0;0 0", "50 0;0 50"), "0", false},
		{noise.Noisy[num.Num]{}, "0", true},
	} {
		if x, ok := noise.Thermal(c.n); x.Text() != c.want || ok != c.ok {
			t.Errorf("Thermal of %s: %s, %v", noisyText(c.n), x.Text(), ok)
		}
	}
}

func TestTemperature(t *testing.T) {
	const (
		least = math.SmallestNonzeroFloat32
		most  = math.MaxFloat32
	)
	inf, nan := float32(math.Inf(1)), float32(math.NaN())
	for _, c := range []struct {
		hot, cold string
		ph, pc    float32
		want      string
		e         api.Errno
	}{
		{"300", "75", 4, 2, "150", api.OK}, {"300", "75", 4, 1, "0", api.OK}, {"300", "0", 1.5, 1, "600", api.OK}, {"1/2", "1/3", 0.75, 0.625, "1/2", api.OK},
		{"300", "0", 2 * least, least, "300", api.OK}, {"1", "0", most, least, "1/242833597054204979200408310406566737244312373222769356951406046285165034661509857279", api.OK}, {"16777217", "0", 1 + 0x1p-23, 1, "140737496743936", api.OK},
		{"300", "75", 5, 1, "0", api.ErrNone}, {"300", "75", 4.0000005, 1, "0", api.ErrNone},
		{"75", "75", 4, 2, "0", api.ErrOrder}, {"75", "300", 4, 2, "0", api.ErrOrder}, {"300", "75", 2, 2, "0", api.ErrOrder}, {"300", "75", 2, 4, "0", api.ErrOrder},
		{"300", "-75", 4, 2, "0", api.ErrArg}, {"-75", "-300", 4, 2, "0", api.ErrArg}, {"300i", "75", 4, 2, "0", api.ErrArg}, {"300", "75+1i", 4, 2, "0", api.ErrArg},
		{"300", "75", 0, 2, "0", api.ErrArg}, {"300", "75", 4, 0, "0", api.ErrArg}, {"300", "75", 4, -2, "0", api.ErrArg}, {"300", "75", -4, -8, "0", api.ErrArg}, {"75", "300", inf, 2, "0", api.ErrArg}, {"75", "300", 4, inf, "0", api.ErrArg}, {"75", "300", nan, 2, "0", api.ErrArg}, {"75", "300", 4, nan, "0", api.ErrArg}, {"75", "300", 4, -inf, "0", api.ErrArg},
	} {
		x, e := noise.Temperature(parse(t, c.hot), parse(t, c.cold), c.ph, c.pc)
		result(t, "Temperature of "+c.hot+" and "+c.cold, x, e, c.want, c.e)
	}
}

func TestFactorOf(t *testing.T) {
	for _, c := range []struct {
		temp, t0, want string
		e              api.Errno
	}{
		{"145", "290", "3/2", api.OK}, {"0", "290", "1", api.OK}, {"1/3", "1/6", "3", api.OK},
		{"-1", "290", "0", api.ErrArg}, {"1i", "290", "0", api.ErrArg}, {"1", "0", "0", api.ErrArg}, {"1", "-290", "0", api.ErrArg}, {"1", "290i", "0", api.ErrArg}, {"1", "1+1i", "0", api.ErrArg},
	} {
		x, e := noise.FactorOf(parse(t, c.temp), parse(t, c.t0))
		result(t, "FactorOf "+c.temp+" at "+c.t0, x, e, c.want, c.e)
	}
}

func TestFirst(t *testing.T) {
	for _, c := range []struct {
		total, receiver, g, want string
		e                        api.Errno
	}{
		{"3", "5", "4", "2", api.OK}, {"2", "5", "4", "1", api.OK}, {"1", "1", "1/9", "1", api.OK}, {"7", "2", "1/5", "2", api.OK},
		{"3/2", "5", "4", "0", api.ErrNone}, {"1", "2", "1000", "0", api.ErrNone},
		{"1/2", "5", "4", "0", api.ErrArg}, {"3", "99/100", "4", "0", api.ErrArg}, {"3", "5", "0", "0", api.ErrArg}, {"3", "5", "-4", "0", api.ErrArg}, {"3i", "5", "4", "0", api.ErrArg}, {"3+1i", "5", "4", "0", api.ErrArg}, {"3", "5+1i", "4", "0", api.ErrArg}, {"3", "5", "4+1i", "0", api.ErrArg}, {"1", "5", "1i", "0", api.ErrArg},
	} {
		x, e := noise.First(parse(t, c.total), parse(t, c.receiver), parse(t, c.g))
		result(t, "First of "+c.total+", "+c.receiver+" and "+c.g, x, e, c.want, c.e)
	}
}

// TestFactorsOfDevices is P5.5 for Factor.
func TestFactorsOfDevices(t *testing.T) {
	d := dice(5)
	fine := 0
	for range 60 {
		z, t0 := d.refs(2), d.kelvin().Add(num.Int(1))
		g := quotient(d.small(), num.Int(13)) // its Norm is below 1
		n := made(t, d.net(t, z), gram(d.matrix(2, 2, d.small)))
		if f, e := noise.Factor(n, g, t0); e == api.OK {
			fine++
			if !f.Real() || f.Cmp(num.Int(1)) < 0 {
				t.Errorf("the noise factor of %s is %s", noisyText(n), f.Text())
			}
			f, e = noise.Factor(noise.Quiet(n.Net()), g, t0)
			result(t, "Factor without noise", f, e, "1", api.OK)
		}
		through := d.small()
		if through.Clear() {
			gain := through.Norm().Mul(quotient(z[0], z[1]))
			matched := plain(t, z, [][]num.Num{{{}, d.small()}, {through, {}}})
			f, e := noise.Factor(own(t, matched, t0), num.Num{}, t0)
			result(t, "Factor of a matched device", f, e, quotient(num.Int(1), gain).Text(), api.OK)
		}
	}
	if fine < 40 {
		t.Errorf("%d of 60 exist", fine)
	}
}

// TestReceivers is P5.5 for Temperature and First.
func TestReceivers(t *testing.T) {
	d := dice(6)
	for range 60 {
		hot, cold, temp := d.below(300)+101, d.below(100)+1, d.below(1000)
		scale := float32(math.Ldexp(float64(d.below(16)+1), d.below(200)-100))
		x, e := noise.Temperature(num.Int(int64(hot)), num.Int(int64(cold)), float32(hot+temp)*scale, float32(cold+temp)*scale)
		result(t, "Temperature", x, e, num.Int(int64(temp)).Text(), api.OK)
		f, r, g := d.kelvin().Add(num.Int(1)), d.kelvin().Add(num.Int(1)), d.refs(1)[0]
		x, e = noise.First(f.Add(quotient(r.Sub(num.Int(1)), g)), r, g)
		result(t, "First", x, e, f.Text(), api.OK)
	}
}
