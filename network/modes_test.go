package network_test

import (
	"testing"

	"waveport/api"
	"waveport/network"
	"waveport/num"
)

func TestModes(t *testing.T) {
	through := net(t, "50 50", "0 1;1 0")
	m, e := network.Mixed(through, [][2]int{{1, 2}})
	if x := unlike(m, net(t, "100 25", "-1 0;0 1")); x != "" || e != api.OK {
		t.Errorf("Mixed: %s, %d", x, e)
	}
	m, e = network.Mixed(through, [][2]int{{2, 1}})
	if x := unlike(m, net(t, "25 100", "1 0;0 -1")); x != "" || e != api.OK {
		t.Errorf("Mixed the other way: %s, %d", x, e)
	}
	m, e = network.Mixed(net(t, "50 50", "1 0;0 1"), [][2]int{{1, 2}})
	if x := unlike(m, net(t, "100 25", "1 0;0 1")); x != "" || e != api.OK {
		t.Errorf("Mixed of the identity: %s, %d", x, e)
	}
	n := net(t, "50 50 3", "1 2 3;4 5 6;7 8 9")
	m, e = network.Mixed(n, [][2]int{{1, 2}})
	if x := unlike(m, net(t, "100 25 3", "0 -6 -3;-1/2 6 9/2;-1/2 15 9")); x != "" || e != api.OK {
		t.Errorf("Mixed of three ports: %s, %d", x, e)
	}
	s, e := network.Single(m, [][2]int{{1, 2}})
	if x := unlike(s, n); x != "" || e != api.OK {
		t.Errorf("Single: %s, %d", x, e)
	}
}

func TestModeErrors(t *testing.T) {
	n := net(t, "100 100 25 25 400", "0 0 0 0 0;0 0 0 0 0;0 0 0 0 0;0 0 0 0 0;0 0 0 0 0")
	for _, c := range []struct {
		pairs [][2]int
		e, e2 api.Errno // of Mixed and of Single
	}{
		{[][2]int{{1, 2}}, api.OK, api.ErrImpedance},
		{[][2]int{{1, 3}}, api.ErrImpedance, api.OK},
		{[][2]int{{3, 1}}, api.ErrImpedance, api.ErrImpedance},
		{[][2]int{{5, 3}}, api.ErrImpedance, api.ErrImpedance},
		{[][2]int{{1, 2}, {4, 3}}, api.OK, api.ErrImpedance},
		{[][2]int{{2, 4}, {1, 3}}, api.ErrImpedance, api.OK},
		{[][2]int{{5, 1}, {1, 3}}, api.ErrImpedance, api.ErrTwice},
		{[][2]int{{5, 1}, {2, 4}}, api.ErrImpedance, api.OK},
		{[][2]int{{0, 0}}, api.ErrArg, api.ErrArg},
		{[][2]int{{1, 6}}, api.ErrArg, api.ErrArg},
		{[][2]int{{1, 1}}, api.ErrTwice, api.ErrTwice},
		{[][2]int{{1, 2}, {2, 6}}, api.ErrTwice, api.ErrImpedance},
		{[][2]int{{1, 2}, {6, 2}}, api.ErrArg, api.ErrImpedance},
		{[][2]int{{1, 3}, {3, 6}}, api.ErrImpedance, api.ErrTwice},
		{[][2]int{{1, 3}, {6, 3}}, api.ErrImpedance, api.ErrArg},
		{[][2]int{{1, 2}, {3, 2}}, api.ErrTwice, api.ErrImpedance},
		{[][2]int{{2, 3}, {5, 4}, {9, 9}}, api.ErrImpedance, api.ErrImpedance},
	} {
		m, e := network.Mixed(n, c.pairs)
		s, e2 := network.Single(n, c.pairs)
		if c.e != api.OK {
			fails(t, "Mixed", m, e, c.e)
		} else if e != api.OK || m.Ports() != 5 {
			t.Errorf("Mixed of %v: %d", c.pairs, e)
		}
		if c.e2 != api.OK {
			fails(t, "Single", s, e2, c.e2)
		} else if e2 != api.OK || s.Ports() != 5 {
			t.Errorf("Single of %v: %d", c.pairs, e2)
		}
	}
}

// TestModeWaves is P4.5 for modes, and what they are: the voltages and currents of the modes make the waves of the mixed network.
func TestModeWaves(t *testing.T) {
	d := dice(7)
	half := parse(t, "1/2")
	for i := range 150 {
		ports := i%7 + 2
		pairs := d.pairs(ports, d.below(ports/2)+1)
		z := d.refs(ports)
		for _, p := range pairs {
			z[p[1]-1] = z[p[0]-1]
		}
		n := d.net(t, z)
		m, e := network.Mixed(n, pairs)
		v, c := voltages(n, d.list(ports))
		for _, pair := range pairs {
			p, q := pair[0]-1, pair[1]-1
			v[p], v[q] = v[p].Sub(v[q]), half.Mul(v[p].Add(v[q]))
			c[p], c[q] = half.Mul(c[p].Sub(c[q])), c[p].Add(c[q])
			z[p], z[q] = z[p].Mul(num.Int(2)), z[q].Mul(half)
		}
		in, want := waves(z, v, c)
		out, _ := network.Drive(m, in)
		if listText(out) != listText(want) || listText(refs(m)) != listText(z) || e != api.OK {
			t.Errorf("Mixed of %s by %v: %s, %d", netText(n), pairs, netText(m), e)
		}
		s, e := network.Single(m, pairs)
		if x := unlike(s, n); x != "" || e != api.OK {
			t.Errorf("Single of Mixed by %v: %s, %d", pairs, x, e)
		}
	}
}
