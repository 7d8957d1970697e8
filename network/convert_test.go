package network_test

import (
	"testing"

	"waveport/api"
	"waveport/box"
	"waveport/network"
	"waveport/num"
)

// voltages returns the voltages at ports and the currents into them, for the waves that enter.
func voltages(n network.Net[num.Num], in []num.Num) (v, c []num.Num) {
	out, _ := network.Drive(n, in)
	for i, z := range refs(n) {
		v = append(v, in[i].Add(out[i]))
		c = append(c, quotient(in[i].Sub(out[i]), z))
	}
	return v, c
}

// waves returns the waves that enter ports, and those that leave, for voltages and currents.
func waves(z, v, c []num.Num) (in, out []num.Num) {
	for i, x := range z {
		in = append(in, quotient(v[i].Add(x.Mul(c[i])), num.Int(2)))
		out = append(out, quotient(v[i].Sub(x.Mul(c[i])), num.Int(2)))
	}
	return in, out
}

// applied returns m times x.
func applied(m [][]num.Num, x []num.Num) []num.Num {
	out := make([]num.Num, len(m))
	for i, row := range m {
		for k, y := range row {
			out[i] = out[i].Add(y.Mul(x[k]))
		}
	}
	return out
}

func TestDescriptions(t *testing.T) {
	series := net(t, "50 50", "1/2 1/2;1/2 1/2")
	if m, e := network.Impedance(series); len(m) != 0 || e != api.ErrNone {
		t.Errorf("Impedance: %s, %d", matrixText(m), e)
	}
	if m, e := network.Admittance(series); matrixText(m) != "1/100 -1/100;-1/100 1/100" || e != api.OK {
		t.Errorf("Admittance: %s, %d", matrixText(m), e)
	}
	shunt := net(t, "50 50", "-1/3 2/3;2/3 -1/3") // an impedance of 50 between both ports and the ground
	if m, e := network.Impedance(shunt); matrixText(m) != "50 50;50 50" || e != api.OK {
		t.Errorf("Impedance: %s, %d", matrixText(m), e)
	}
	if m, e := network.Admittance(shunt); len(m) != 0 || e != api.ErrNone {
		t.Errorf("Admittance: %s, %d", matrixText(m), e)
	}
	load := net(t, "50", "1/3")
	if m, e := network.Impedance(load); matrixText(m) != "100" || e != api.OK {
		t.Errorf("Impedance: %s, %d", matrixText(m), e)
	}
	for z, want := range map[string]string{"100": "0", "50": "1/3", "25": "3/5"} {
		r, e := network.Renormalize(load, list(t, z))
		if x := unlike(r, net(t, z, want)); x != "" || e != api.OK {
			t.Errorf("Renormalize to %s: %s, %d", z, x, e)
		}
	}
	r, e := network.FromImpedance(list(t, "25 50"), matrix(t, "75i 0;0 0"))
	if x := unlike(r, net(t, "25 50", "4/5+3/5i 0;0 -1")); x != "" || e != api.OK {
		t.Errorf("FromImpedance: %s, %d", x, e)
	}
	r, e = network.FromAdmittance(list(t, "25 50"), matrix(t, "3/25 0;0 0"))
	if x := unlike(r, net(t, "25 50", "-1/2 0;0 1")); x != "" || e != api.OK {
		t.Errorf("FromAdmittance: %s, %d", x, e)
	}
}

func TestDescriptionErrors(t *testing.T) {
	for i, c := range []struct {
		z []num.Num
		m [][]num.Num
		e api.Errno
	}{
		{nil, nil, api.ErrSize},
		{flat(9), num.Identity[num.Num](9), api.ErrSize},
		{flat(2), matrix(t, "0 0"), api.ErrSize},
		{flat(2), matrix(t, "0 0;0"), api.ErrSize},
		{list(t, "0 1"), matrix(t, "0 0;0"), api.ErrSize},
		{list(t, "0"), matrix(t, "0"), api.ErrArg},
		{list(t, "-1"), matrix(t, "1"), api.ErrArg}, // m + z would be singular
		{list(t, "1 1i"), matrix(t, "1 0;0 1"), api.ErrArg},
	} {
		n, e := network.FromImpedance(c.z, c.m)
		fails(t, "FromImpedance", n, e, c.e)
		n, e = network.FromAdmittance(c.z, c.m)
		fails(t, "FromAdmittance", n, e, c.e)
		if e != c.e {
			t.Errorf("in case %d", i)
		}
	}
	n, e := network.FromImpedance(list(t, "50"), matrix(t, "-50"))
	fails(t, "the impedance -50", n, e, api.ErrNone)
	n, e = network.FromAdmittance(list(t, "50"), matrix(t, "-1/50"))
	fails(t, "the admittance -1/50", n, e, api.ErrNone)
	two := net(t, "50 50", "3 0;0 3") // an impedance of -100
	for _, c := range []struct {
		z []num.Num
		e api.Errno
	}{
		{nil, api.ErrSize}, {flat(1), api.ErrSize}, {flat(3), api.ErrSize}, {list(t, "-1"), api.ErrSize},
		{list(t, "50 0"), api.ErrArg}, {list(t, "-100 100"), api.ErrArg}, {list(t, "100 1i"), api.ErrArg}, {list(t, "100 -1"), api.ErrArg},
		{list(t, "50 100"), api.ErrNone},
	} {
		n, e := network.Renormalize(two, c.z)
		fails(t, "Renormalize to "+listText(c.z), n, e, c.e)
	}
	if m, e := network.Impedance(net(t, "1 1", "0 1;1 0")); len(m) != 0 || e != api.ErrNone {
		t.Errorf("Impedance of a through: %s, %d", matrixText(m), e)
	}
	if m, e := network.Admittance(net(t, "1 1", "0 1;1 0")); len(m) != 0 || e != api.ErrNone {
		t.Errorf("Admittance of a through: %s, %d", matrixText(m), e)
	}
}

// TestTinyImpedances has reference impedances nearer to 0 than all floats above it.
func TestTinyImpedances(t *testing.T) {
	z := list(t, "1e-330 50")
	s := num.Lift[box.Box](matrix(t, "1/2 0;0 1/2"))
	n := made(t, z, s)
	if m, e := network.Impedance(n); len(m) != 2 || e != api.OK || !m[0][0].Has(parse(t, "3e-330")) {
		t.Errorf("Impedance: %v, %d", m, e)
	}
	if m, e := network.Admittance(n); len(m) != 0 || e != api.ErrNone {
		t.Errorf("Admittance: %v, %d", m, e)
	}
	r, e := network.FromImpedance(z, s)
	fails(t, "FromImpedance", r, e, api.ErrNone)
	r, e = network.FromImpedance(list(t, "1e-330 0"), s)
	fails(t, "FromImpedance with an impedance 0", r, e, api.ErrArg)
	if r, e = network.FromAdmittance(z, s); r.Ports() != 2 || e != api.OK {
		t.Errorf("FromAdmittance: %d", e)
	}
	exact := net(t, "1e-330 50", "1/2 0;0 1/2")
	if m, e := network.Admittance(exact); e != api.OK || !m[0][0].Same(quotient(num.Int(1), parse(t, "3e-330"))) {
		t.Errorf("Admittance over Num: %s, %d", matrixText(m), e)
	}
}

// TestThereAndBack is P4.5, and what the descriptions mean for voltages and currents.
func TestThereAndBack(t *testing.T) {
	d := dice(5)
	both, either := 0, 0
	for i := range 200 {
		ports := i%5 + 1
		n := d.net(t, d.refs(ports))
		v, c := voltages(n, d.list(ports))
		z, e := network.Impedance(n)
		y, f := network.Admittance(n)
		if e == api.OK {
			back, g := network.FromImpedance(refs(n), z)
			if x := unlike(back, n); x != "" || g != api.OK || listText(applied(z, c)) != listText(v) {
				t.Errorf("Impedance of %s: %s, %s, %d", netText(n), matrixText(z), x, g)
			}
		}
		if f == api.OK {
			back, g := network.FromAdmittance(refs(n), y)
			if x := unlike(back, n); x != "" || g != api.OK || listText(applied(y, v)) != listText(c) {
				t.Errorf("Admittance of %s: %s, %s, %d", netText(n), matrixText(y), x, g)
			}
		}
		switch {
		case e == api.OK && f == api.OK:
			both++
			if p, _ := num.Product(z, y); matrixText(p) != matrixText(num.Identity[num.Num](ports)) {
				t.Errorf("Impedance and Admittance of %s", netText(n))
			}
		case e == api.ErrNone && len(z) == 0 || f == api.ErrNone && len(y) == 0:
			either++
		default:
			t.Errorf("%s: %d, %d", netText(n), e, f)
		}
	}
	if both < 100 || either < 10 {
		t.Errorf("%d, %d of 200", both, either)
	}
}

// TestRenormalize is P4.5 for Renormalize: the voltages and the currents stay, and so does the impedance matrix.
func TestRenormalize(t *testing.T) {
	d := dice(6)
	fine := 0
	for i := range 200 {
		ports := i%5 + 1
		n, z := d.net(t, d.refs(ports)), d.refs(ports)
		r, e := network.Renormalize(n, z)
		// The waves that enter now are those before times a matrix, which has to be invertible.
		m := make([][]num.Num, ports)
		for k := range m {
			unit := make([]num.Num, ports)
			unit[k] = num.Int(1)
			v, c := voltages(n, unit)
			m[k], _ = waves(z, v, c)
		}
		if det, _ := num.Det(m); !det.Clear() {
			fails(t, "Renormalize", r, e, api.ErrNone)
			continue
		}
		fine++
		v, c := voltages(n, d.list(ports))
		in, want := waves(z, v, c)
		out, _ := network.Drive(r, in)
		if listText(out) != listText(want) || listText(refs(r)) != listText(z) || e != api.OK {
			t.Errorf("Renormalize of %s to %s: %s, %d", netText(n), listText(z), netText(r), e)
		}
		back, e := network.Renormalize(r, refs(n))
		if x := unlike(back, n); x != "" || e != api.OK {
			t.Errorf("Renormalize and back: %s, %d", x, e)
		}
		a, f := network.Impedance(n)
		b, g := network.Impedance(r)
		if matrixText(a) != matrixText(b) || f != g {
			t.Errorf("Impedance of %s renormalized: %d, %d", netText(n), f, g)
		}
	}
	if fine < 150 || fine == 200 {
		t.Errorf("%d of 200", fine)
	}
}
