package network_test

import (
	"testing"

	"waveport/api"
	"waveport/box"
	"waveport/network"
	"waveport/num"
)

// tally counts the results of a function over boxes.
type tally struct{ fine, failed int }

// encloses is P4.7 for one call of a function: of numbers, and of boxes around them.
func (c *tally) encloses(t *testing.T, what string, n network.Net[num.Num], e api.Errno, b network.Net[box.Box], f api.Errno) {
	t.Helper()
	if f != api.OK {
		c.failed++
		return
	}
	if e != api.OK || listText(refs(n)) != listText(refs(b)) {
		t.Errorf("%s: %d, but boxes have a result", what, e)
		return
	}
	c.matrices(t, what, elements(n), e, elements(b), f)
}

// matrices is encloses for matrices.
func (c *tally) matrices(t *testing.T, what string, m [][]num.Num, e api.Errno, b [][]box.Box, f api.Errno) {
	t.Helper()
	if f != api.OK {
		c.failed++
		return
	}
	if c.fine++; e != api.OK || len(m) != len(b) {
		t.Errorf("%s: %d, but boxes have a result", what, e)
		return
	}
	for i, row := range m {
		for j, x := range row {
			if !b[i][j].Has(x) {
				t.Errorf("%s: %s is not within %v, %v", what, x.Text(), b[i][j].Lo(), b[i][j].Hi())
			}
		}
	}
}

// TestEnclosure is P4.7 and P3.
func TestEnclosure(t *testing.T) {
	d := dice(11)
	counts := map[string]*tally{}
	at := func(what string) *tally {
		if counts[what] == nil {
			counts[what] = &tally{}
		}
		return counts[what]
	}
	for i := range 120 {
		ports := i%4 + 2
		z := flat(ports)
		n := d.net(t, z)
		b := boxed(t, &d, n)
		port, joints := d.below(ports)+1, d.pairs(ports, 1+d.below(ports/2))
		enclosure(t, &d, at, n, b, port, joints)
		r, e := network.Renormalize(n, z)
		q, f := network.Renormalize(b, z)
		at("Renormalize").encloses(t, "Renormalize to the same impedances", r, e, q, f)
		z = d.refs(ports)
		r, e = network.Renormalize(n, z)
		q, f = network.Renormalize(b, z)
		at("Renormalize").encloses(t, "Renormalize", r, e, q, f)
		m, w := elements(n), elements(b)
		r, e = network.FromImpedance(z, m)
		q, f = network.FromImpedance(z, w)
		at("FromImpedance").encloses(t, "FromImpedance", r, e, q, f)
		r, e = network.FromAdmittance(z, m)
		q, f = network.FromAdmittance(z, w)
		at("FromAdmittance").encloses(t, "FromAdmittance", r, e, q, f)
		m, e = network.Impedance(n)
		w, f = network.Impedance(b)
		at("Impedance").matrices(t, "Impedance", m, e, w, f)
		m, e = network.Admittance(n)
		w, f = network.Admittance(b)
		at("Admittance").matrices(t, "Admittance", m, e, w, f)
	}
	for what, c := range counts {
		if c.fine < 60 {
			t.Errorf("%s: %d results, %d errors", what, c.fine, c.failed)
		}
	}
	if len(counts) != 14 {
		t.Errorf("%d functions", len(counts))
	}
}

// enclosure is the part of TestEnclosure about connections, modes and sweeps.
func enclosure(t *testing.T, d *dice, at func(string) *tally, n network.Net[num.Num], b network.Net[box.Box], port int, joints [][2]int) {
	t.Helper()
	if 2*len(joints) < n.Ports() {
		r, e := network.Join(n, joints)
		q, f := network.Join(b, joints)
		at("Join").encloses(t, "Join", r, e, q, f)
	}
	g := [][]num.Num{{d.small()}}
	r, e := network.Terminate(n, port, g[0][0])
	q, f := network.Terminate(b, port, around(t, d, g)[0][0])
	at("Terminate").encloses(t, "Terminate", r, e, q, f)
	x := d.net(t, flat(2))
	y := boxed(t, d, x)
	r, e = network.Embed(n, port, x)
	q, f = network.Embed(b, port, y)
	at("Embed").encloses(t, "Embed", r, e, q, f)
	r, e = network.Remove(n, port, x)
	q, f = network.Remove(b, port, y)
	at("Remove").encloses(t, "Remove", r, e, q, f)
	r, e = network.Stack(n, x)
	q, f = network.Stack(b, y)
	at("Stack").encloses(t, "Stack", r, e, q, f)
	r, e = network.Mixed(n, joints)
	q, f = network.Mixed(b, joints)
	at("Mixed").encloses(t, "Mixed", r, e, q, f)
	r, e = network.Single(r, joints)
	q, f = network.Single(q, joints)
	at("Single").encloses(t, "Single", r, e, q, f)
	other := d.net(t, refs(n))
	s, e := network.NewSweep(counted(2), []network.Net[num.Num]{n, other})
	w, f := network.NewSweep(counted(2), []network.Net[box.Box]{b, boxed(t, d, other)})
	if e != api.OK || f != api.OK {
		t.Fatalf("NewSweep: %d, %d", e, f)
	}
	middle, _ := num.New(4, 0, 3)
	r, e = network.Between(s, middle)
	q, f = network.Between(w, middle)
	at("Between").encloses(t, "Between", r, e, q, f)
	a := [][]num.Num{d.list(n.Ports())}
	v := around(t, d, a)
	a[0], e = network.Drive(n, a[0])
	v[0], f = network.Drive(b, v[0])
	at("Drive").matrices(t, "Drive", a, e, v, f)
}

// TestUnsure has boxes that contain numbers for which there is no result.
func TestUnsure(t *testing.T) {
	one := made(t, flat(1), [][]box.Box{{between(t, 0.5, 1)}})
	two := made(t, flat(2), [][]box.Box{{between(t, 0, 0), between(t, 1, 1)}, {between(t, 1, 1), between(t, 0.5, 1)}})
	r, e := network.Terminate(two, 2, between(t, 0.5, 1))
	fails(t, "Terminate", r, e, api.ErrSingular)
	if r, e = network.Terminate(two, 2, between(t, 0.5, 0.75)); r.Ports() != 1 || e != api.OK {
		t.Errorf("Terminate: %d", e)
	}
	r, e = network.Embed(one, 1, two)
	fails(t, "Embed", r, e, api.ErrSingular)
	for i, l := range [][]box.Box{ // a, b, c, d of a fixture
		{between(t, 0, 0), between(t, -1, 1), between(t, 1, 1), between(t, 0, 0)},
		{between(t, 0, 0), between(t, 1, 1), between(t, 0, 1), between(t, 0, 0)},
		{between(t, 1, 1), between(t, 1, 1), between(t, 1, 1), between(t, 0, 3)},
	} {
		r, e = network.Remove(one, 1, made(t, flat(2), [][]box.Box{l[:2], l[2:]}))
		fails(t, "Remove", r, e, api.ErrSingular)
		if e != api.ErrSingular {
			t.Errorf("in case %d", i)
		}
	}
	three, _ := network.Stack(one, two)
	r, e = network.Join(three, [][2]int{{1, 3}})
	fails(t, "Join", r, e, api.ErrSingular)
	if m, e := network.Impedance(one); len(m) != 0 || e != api.ErrNone {
		t.Errorf("Impedance: %v, %d", m, e)
	}
	if m, e := network.Admittance(one); len(m) != 1 || e != api.OK {
		t.Errorf("Admittance: %v, %d", m, e)
	}
	minus := [][]box.Box{{between(t, -2, -0.02)}}
	r, e = network.FromImpedance(flat(1), [][]box.Box{{between(t, -60, -40)}})
	fails(t, "FromImpedance", r, e, api.ErrNone)
	r, e = network.FromAdmittance(flat(1), minus)
	fails(t, "FromAdmittance", r, e, api.ErrNone)
	r, e = network.Renormalize(made(t, flat(1), [][]box.Box{{between(t, 2, 4)}}), list(t, "100"))
	fails(t, "Renormalize", r, e, api.ErrNone)
	if !network.Equal(one, one) || network.Equal(one, made(t, flat(1), [][]box.Box{{between(t, 0.5, 0.75)}})) {
		t.Error("Equal of boxes")
	}
}

// TestBoxes has a result with known corners: a reflection from 1/4 to 1/2 behind a matched line that halves each way.
func TestBoxes(t *testing.T) {
	n := made(t, flat(1), [][]box.Box{{between(t, 0.25, 0.5)}})
	f := made(t, flat(2), num.Lift[box.Box](matrix(t, "0 1/2;1/2 0")))
	m, e := network.Embed(n, 1, f)
	if !network.Equal(m, made(t, flat(1), [][]box.Box{{between(t, 0.0625, 0.125)}})) || e != api.OK {
		t.Errorf("Embed: %v, %d", elements(m), e)
	}
}
