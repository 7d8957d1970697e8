package noise_test

import (
	"testing"

	"waveport/api"
	"waveport/network"
	"waveport/noise"
	"waveport/num"
)

// TestOwnNoiseIsKept is P5.2 for connections.
func TestOwnNoiseIsKept(t *testing.T) {
	d := dice(7)
	fine := map[string]int{}
	for i := range 100 {
		temp, ports := d.kelvin(), i%4+2
		z := d.refs(ports)
		z[1] = z[0]
		a, b := own(t, d.net(t, z), temp), own(t, d.net(t, d.refs(i%3+1)), temp)
		keeps := func(what string, n noise.Noisy[num.Num], e api.Errno) {
			t.Helper()
			if e != api.OK {
				fails(t, what, n, e, e)
				return
			}
			fine[what]++
			is(t, what, n, e, own(t, n.Net(), temp))
			if x, ok := noise.Thermal(n); !ok || x.Clear() && !x.Same(temp) {
				t.Errorf("%s at %s: %s, %v", what, temp.Text(), x.Text(), ok)
			}
		}
		s, e := noise.Stack(a, b)
		keeps("Stack", s, e)
		n, e := noise.Join(s, [][2]int{{2, 1}})
		keeps("Join", n, e)
		n, e = noise.Terminate(a, d.below(ports)+1, d.small(), temp)
		keeps("Terminate", n, e)
		n, e = noise.Renumber(s, d.order(s.Net().Ports()))
		keeps("Renumber", n, e)
		n, e = noise.Renormalize(a, d.refs(ports))
		keeps("Renormalize", n, e)
	}
	for _, what := range []string{"Stack", "Join", "Terminate", "Renumber", "Renormalize"} {
		if fine[what] < 60 {
			t.Errorf("%s: %d of 100 exist", what, fine[what])
		}
	}
}

// ofImpedance returns the network with the impedance matrix that is the sum of i times a Hermitian matrix and r, which is positive semidefinite for a passive network, and 0 for a lossless one.
func ofImpedance(t *testing.T, d *dice, z []num.Num, r [][]num.Num) network.Net[num.Num] {
	t.Helper()
	m := d.matrix(len(z), len(z), d.small)
	for p := range m {
		for q := range p {
			m[p][q] = m[q][p].Conj().Neg()
		}
		m[p][p] = m[p][p].Sub(m[p][p].Re())
	}
	n, e := network.FromImpedance(z, sum(m, r))
	if e != api.OK {
		return plain(t, z, num.Identity[num.Num](len(z)))
	}
	return n
}

// zeros returns a matrix of zeros.
func zeros(n int) [][]num.Num {
	return new(dice).matrix(n, n, func() num.Num { return num.Num{} })
}

// TestOwnNoiseOfDevices is P5.2 for passive and lossless networks.
func TestOwnNoiseOfDevices(t *testing.T) {
	d := dice(8)
	for i := range 40 {
		z, temp := d.refs(i%4+1), d.kelvin()
		n := ofImpedance(t, &d, z, gram(d.matrix(len(z), d.below(3)+1, d.small)))
		if ok, _ := network.Passive(n); !ok {
			t.Fatalf("a network that is not passive")
		}
		if ok, w := noise.Possible(own(t, n, temp)); !ok || len(w) > 0 {
			t.Errorf("the own noise of %s is not possible", noisyText(own(t, n, temp)))
		}
		n = ofImpedance(t, &d, z, zeros(len(z)))
		is(t, "the own noise of a lossless network", own(t, n, temp), api.OK, noise.Quiet(n))
	}
}

// renumbered returns joints with the numbers that their ports have after another joint.
func renumbered(joints [][2]int, done [2]int) [][2]int {
	var out [][2]int
	for _, j := range joints {
		for k, p := range j {
			for _, q := range done {
				if q < p {
					j[k]--
				}
			}
		}
		out = append(out, j)
	}
	return out
}

// joinedInSteps returns n after one joint after the other, in some order, and whether each step exists.
func joinedInSteps(d *dice, n noise.Noisy[num.Num], joints [][2]int) (noise.Noisy[num.Num], bool) {
	for len(joints) > 0 {
		k := d.below(len(joints))
		one := joints[k]
		next, e := noise.Join(n, [][2]int{one})
		if e != api.OK {
			return next, false
		}
		var rest [][2]int
		rest = append(append(rest, joints[:k]...), joints[k+1:]...)
		n, joints = next, renumbered(rest, one)
	}
	return n, true
}

// TestJoinInSteps is P5.3 for Join.
func TestJoinInSteps(t *testing.T) {
	d := dice(9)
	fine := 0
	for i := range 80 {
		ports := i%4 + 5
		n := d.noisy(t, flat(ports))
		joints := d.pairs(ports, 2+d.below(max(1, (ports-1)/2-1)))
		at, e := noise.Join(n, joints)
		if steps, ok := joinedInSteps(&d, n, joints); ok {
			fine++
			is(t, "Join in steps", steps, e, at)
		}
	}
	if fine < 40 {
		t.Errorf("%d of 80 exist", fine)
	}
}

// TestConnecting is P5.3 for Terminate, Renormalize and sums.
func TestConnecting(t *testing.T) {
	d := dice(10)
	fine, back := 0, 0
	for i := range 80 {
		ports := i%4 + 2
		n, port, g, temp := d.noisy(t, d.refs(ports)), d.below(ports)+1, d.small(), d.kelvin()
		x, e := noise.Terminate(n, port, g, temp)
		z, _ := n.Net().Ref(port)
		s, _ := noise.Stack(n, own(t, plain(t, []num.Num{z}, [][]num.Num{{g}}), temp))
		y, f := noise.Join(s, [][2]int{{port, ports + 1}})
		if e != f || unlike(x, y) != "" {
			t.Errorf("Terminate is not Join: %s, %d, %d", unlike(x, y), e, f)
		}
		if e == api.OK {
			fine++
		}
		to := d.refs(ports)
		if x, e = noise.Renormalize(n, to); e == api.OK {
			back++
			x, e = noise.Renormalize(x, refs(n.Net()))
			is(t, "Renormalize there and back", x, e, n)
		}
		other := made(t, n.Net(), d.matrix(ports, ports, d.small))
		both := made(t, n.Net(), sum(correlation(n), correlation(other)))
		order, joints := d.order(ports), d.pairs(ports, (ports-1)/2)
		for what, f := range map[string]func(noise.Noisy[num.Num]) (noise.Noisy[num.Num], api.Errno){
			"Renumber":    func(n noise.Noisy[num.Num]) (noise.Noisy[num.Num], api.Errno) { return noise.Renumber(n, order) },
			"Join":        func(n noise.Noisy[num.Num]) (noise.Noisy[num.Num], api.Errno) { return noise.Join(n, joints) },
			"Renormalize": func(n noise.Noisy[num.Num]) (noise.Noisy[num.Num], api.Errno) { return noise.Renormalize(n, to) },
			"Terminate": func(n noise.Noisy[num.Num]) (noise.Noisy[num.Num], api.Errno) {
				return noise.Terminate(n, port, g, num.Num{})
			},
			"Stack": func(n noise.Noisy[num.Num]) (noise.Noisy[num.Num], api.Errno) { return noise.Stack(n, n) },
		} {
			x, e := f(n)
			if e == api.OK {
				y, _ := f(other)
				z, e := f(both)
				is(t, what+" of a sum", z, e, made(t, x.Net(), sum(correlation(x), correlation(y))))
			}
		}
	}
	if fine < 50 || back < 50 {
		t.Errorf("%d and %d of 80 exist", fine, back)
	}
}

// TestPossibleIsKept is P5.4.
func TestPossibleIsKept(t *testing.T) {
	d := dice(11)
	exist := 0
	keeps := func(what string, n noise.Noisy[num.Num], e api.Errno) {
		t.Helper()
		if e != api.OK {
			return
		}
		exist++
		if ok, w := noise.Possible(n); !ok || len(w) > 0 {
			t.Errorf("%s: %s is not possible", what, noisyText(n))
		}
	}
	possible := func(z []num.Num) noise.Noisy[num.Num] {
		return made(t, d.net(t, z), gram(d.matrix(len(z), d.below(3)+1, d.small)))
	}
	for i := range 60 {
		ports := i%4 + 2
		z := d.refs(ports)
		z[1] = z[0]
		n := possible(z)
		keeps("none", n, api.OK)
		s, e := noise.Stack(n, possible(d.refs(i%3+1)))
		keeps("Stack", s, e)
		x, e := noise.Renumber(s, d.order(s.Net().Ports()))
		keeps("Renumber", x, e)
		x, e = noise.Join(s, [][2]int{{1, 2}})
		keeps("Join", x, e)
		g := quotient(d.small(), num.Int(13))
		if i%3 == 0 {
			g = parse(t, "-4/5+3/5i")
		}
		x, e = noise.Terminate(n, d.below(ports)+1, g, d.kelvin())
		keeps("Terminate", x, e)
		x, e = noise.Renormalize(n, d.refs(ports))
		keeps("Renormalize", x, e)
	}
	if exist < 300 {
		t.Errorf("%d of 360 exist", exist)
	}
}

// TestImpossible is the part of P5.4 about witnesses.
func TestImpossible(t *testing.T) {
	d := dice(12)
	impossible := 0
	for i := range 100 {
		ports := i%5 + 1
		c := sum(gram(d.matrix(ports, ports, d.small)), zeros(ports))
		c[ports-1][ports-1] = c[ports-1][ports-1].Sub(d.kelvin())
		ok, w := noise.Possible(made(t, d.net(t, d.refs(ports)), c))
		if ok {
			continue
		}
		impossible++
		if form, e := num.Form(c, w); e != api.OK || !form.Real() || form.Cmp(num.Num{}) >= 0 {
			t.Errorf("the form of %s at %s is %s, %d", matrixText(c), listText(w), form.Text(), e)
		}
	}
	if impossible < 30 {
		t.Errorf("%d of 100 are impossible", impossible)
	}
}
