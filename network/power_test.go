package network_test

import (
	"testing"

	"waveport/api"
	"waveport/network"
	"waveport/num"
)

// power returns the power that waves bring into a network.
func power(n network.Net[num.Num], in []num.Num) num.Num {
	out, _ := network.Drive(n, in)
	var sum num.Num
	for i, z := range refs(n) {
		sum = sum.Add(quotient(in[i].Norm().Sub(out[i].Norm()), z))
	}
	return sum
}

// form returns the matrix of the power that waves bring into a network, taken from the powers of single waves and of sums of two.
func form(n network.Net[num.Num]) [][]num.Num {
	i, _ := num.New(0, 1, 1)
	ports := n.Ports()
	at := func(p, q int, x num.Num) num.Num {
		in := make([]num.Num, ports)
		in[p] = num.Int(1)
		in[q] = in[q].Add(x)
		return power(n, in)
	}
	h := make([][]num.Num, ports)
	for p := range h {
		h[p] = make([]num.Num, ports)
		for q := range h {
			if p == q {
				h[p][p] = at(p, p, num.Int(0))
				continue
			}
			re, im := at(p, q, num.Int(1)).Sub(at(p, q, num.Int(-1))), at(p, q, i).Sub(at(p, q, i.Neg()))
			h[p][q] = quotient(re.Sub(i.Mul(im)), num.Int(4))
		}
	}
	return h
}

// semidefinite reports whether all principal minors of a Hermitian matrix are at least 0.
func semidefinite(h [][]num.Num) bool {
	for set := 1; set < 1<<len(h); set++ {
		var m [][]num.Num
		for i, row := range h {
			if set>>i&1 == 0 {
				continue
			}
			var l []num.Num
			for k, x := range row {
				if set>>k&1 == 1 {
					l = append(l, x)
				}
			}
			m = append(m, l)
		}
		if det, _ := num.Det(m); det.Cmp(num.Num{}) < 0 {
			return false
		}
	}
	return true
}

// judged tests what is said of the power of a network, and reports it.
func judged(t *testing.T, n network.Net[num.Num]) (passive, lossless bool) {
	t.Helper()
	h := form(n)
	passive, w := network.Passive(n)
	if passive != semidefinite(h) || passive && len(w) > 0 {
		t.Errorf("Passive of %s: %v, %d waves", netText(n), passive, len(w))
	}
	if !passive && (len(w) != n.Ports() || power(n, w).Cmp(num.Num{}) >= 0) {
		t.Errorf("the witness of %s: %s", netText(n), listText(w))
	}
	zero := true
	for _, row := range h {
		for _, x := range row {
			zero = zero && !x.Clear()
		}
	}
	lossless = network.Lossless(n)
	if lossless != zero || lossless && !passive {
		t.Errorf("Lossless of %s: %v", netText(n), lossless)
	}
	return passive, lossless
}

func TestPower(t *testing.T) {
	for _, c := range []struct {
		n                             network.Net[num.Num]
		passive, lossless, reciprocal bool
		k                             int
	}{
		{net(t, "50 50", "0 2;1/2 0"), false, false, false, 512},
		{net(t, "50 50", "0 1;1/4 0"), true, false, false, 1024},
		{net(t, "50 50", "0 1;1 0"), true, true, true, 1024},
		{net(t, "50 50", "0 1;1i 0"), true, true, false, 1024},
		{net(t, "50 50", "0 0;0 0"), true, false, true, 1024},
		{net(t, "50 200", "0 1/2;2 0"), true, true, true, 1024},
		{net(t, "50 200", "0 1;1 0"), false, false, false, 512},
		{net(t, "200 50", "0 1/2;1/2 0"), true, false, false, 1024},
		{net(t, "50 50", "3/5 4/5;4/5 -3/5"), true, true, true, 1024},
		{net(t, "50 50", "3/5 4/5;4/5 3/5"), false, false, true, 731},
		{net(t, "50 50", "1/2 1/2;1/2 1/2"), true, false, true, 1024},
		{net(t, "1 1 1", "0 0 1;1 0 0;0 1 0"), true, true, false, 1024},
		{net(t, "1 1 1", "0 1 1;1 0 1;1 1 0"), false, false, true, 512},
		{net(t, "7", "-1"), true, true, true, 1024},
		{net(t, "7", "3/5+4/5i"), true, true, true, 1024},
		{net(t, "7", "1025/1024"), false, false, true, 1023},
		{net(t, "7", "1024/1023i"), false, false, true, 1023},
		{net(t, "7", "1024/1022"), false, false, true, 1022},
		{net(t, "7", "1024"), false, false, true, 1},
		{net(t, "7", "1025"), false, false, true, 0},
		{net(t, "7", "-1e30"), false, false, true, 0},
	} {
		passive, lossless := judged(t, c.n)
		if passive != c.passive || lossless != c.lossless || network.Reciprocal(c.n) != c.reciprocal {
			t.Errorf("%s: passive %v, lossless %v, reciprocal %v", netText(c.n), passive, lossless, network.Reciprocal(c.n))
		}
		s, k := network.Shrink(c.n)
		if x := unlike(s, part(t, c.n, quotient(num.Int(int64(c.k)), num.Int(1024)))); x != "" || k != c.k {
			t.Errorf("Shrink of %s: %d, want %d, %s", netText(c.n), k, c.k, x)
		}
	}
}

// TestPassive is the part of P4.6 about any networks: of each kind there are some.
func TestPassive(t *testing.T) {
	d := dice(8)
	passives, steps := 0, 0
	for i := range 120 {
		n := d.net(t, d.refs(i%4+1))
		if i%2 == 0 {
			n = part(t, n, quotient(num.Int(1), num.Int(int64(d.below(20)+1))))
		}
		ok, _ := judged(t, n)
		if ok {
			passives++
		}
		s, k := network.Shrink(n)
		next, _ := network.Passive(part(t, n, quotient(num.Int(int64(k+1)), num.Int(1024))))
		if fine, _ := network.Passive(s); !fine || k < 1024 && next || ok != (k == 1024) || k > 1024 || k < 0 {
			t.Errorf("Shrink of %s: %d", netText(n), k)
		}
		if x := unlike(s, part(t, n, quotient(num.Int(int64(k)), num.Int(1024)))); x != "" {
			t.Errorf("Shrink to %d: %s", k, x)
		}
		if 0 < k && k < 1024 {
			steps++
		}
	}
	if passives < 20 || passives > 100 || steps < 20 {
		t.Errorf("%d of 120 are passive, %d are in between", passives, steps)
	}
}

// device makes networks of a kind: passive, lossless or reciprocal ones.
type device func(z []num.Num) network.Net[num.Num]

// ofImpedance returns the network with an impedance matrix; one that has none is replaced by open ports.
func ofImpedance(t *testing.T, z []num.Num, m [][]num.Num) network.Net[num.Num] {
	t.Helper()
	n, e := network.FromImpedance(z, m)
	if e != api.OK {
		return made(t, z, num.Identity[num.Num](len(z)))
	}
	return n
}

// squared returns Adjoint(a) times a, which is positive semidefinite.
func squared(a [][]num.Num) [][]num.Num {
	adjoint, _ := num.Adjoint(a)
	h, _ := num.Product(adjoint, a)
	return h
}

// devices returns what makes the networks that connections keep.
func devices(t *testing.T, d *dice) map[string]device {
	i, _ := num.New(0, 1, 1)
	reactance := func(ports int) [][]num.Num { // i times a Hermitian matrix
		m := d.matrix(ports, ports, d.small)
		for p := range m {
			for q := range p {
				m[p][q] = m[q][p].Conj().Neg()
			}
			m[p][p] = m[p][p].Re().Mul(i)
		}
		return m
	}
	return map[string]device{
		"lossless": func(z []num.Num) network.Net[num.Num] { return ofImpedance(t, z, reactance(len(z))) },
		"passive": func(z []num.Num) network.Net[num.Num] {
			m, h := reactance(len(z)), squared(d.matrix(d.below(3)+1, len(z), d.small))
			for p := range m {
				for q := range m {
					m[p][q] = m[p][q].Add(h[p][q])
				}
			}
			return ofImpedance(t, z, m)
		},
		"reciprocal": func(z []num.Num) network.Net[num.Num] {
			m := d.matrix(len(z), len(z), d.small)
			for p := range m {
				for q := range p {
					m[p][q] = m[q][p]
				}
			}
			return ofImpedance(t, z, m)
		},
	}
}

// TestPowerIsKept is P4.6 for connections: it makes networks of each kind, connects them, and looks at what comes out.
func TestPowerIsKept(t *testing.T) {
	d := dice(9)
	kinds := map[string]func(n network.Net[num.Num]) bool{
		"passive":    func(n network.Net[num.Num]) bool { ok, _ := network.Passive(n); return ok },
		"lossless":   network.Lossless,
		"reciprocal": network.Reciprocal,
	}
	makes := devices(t, &d)
	for _, kind := range []string{"passive", "lossless", "reciprocal"} {
		is, builds := kinds[kind], makes[kind]
		exist := 0
		keeps := func(what string, n network.Net[num.Num], e api.Errno) {
			t.Helper()
			if e == api.OK {
				exist++
			}
			if !is(n) {
				t.Errorf("%s of %s networks: %s", what, kind, netText(n))
			}
		}
		for i := range 40 {
			ports := i%4 + 2
			z := d.refs(ports)
			z[1] = z[0]
			n, m := builds(z), builds(d.refs(i%3+1))
			keeps("none", n, api.OK)
			r, e := network.Stack(n, m)
			keeps("Stack", r, e)
			r, e = network.Renumber(r, d.order(r.Ports()))
			keeps("Renumber", r, e)
			if ports > 2 {
				r, e = network.Join(n, [][2]int{{1, 2}})
				keeps("Join", r, e)
			}
			r, e = network.Embed(n, 2, builds([]num.Num{d.refs(1)[0], z[1]}))
			keeps("Embed", r, e)
			r, e = network.Renormalize(n, d.refs(ports))
			keeps("Renormalize", r, e)
			g, _ := builds(z[:1]).At(1, 1)
			r, e = network.Terminate(n, 1, g)
			keeps("Terminate", r, e)
			r, e = network.Mixed(n, [][2]int{{2, 1}})
			keeps("Mixed", r, e)
		}
		if exist < 250 {
			t.Errorf("%d %s networks", exist, kind)
		}
	}
}
