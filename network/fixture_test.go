package network_test

import (
	"testing"

	"waveport/api"
	"waveport/network"
	"waveport/num"
)

func TestFixtures(t *testing.T) {
	open, f := net(t, "50", "1"), net(t, "75 50", "1/10 9/10;1 1/5")
	n, e := network.Embed(open, 1, f)
	if x := unlike(n, net(t, "75", "49/40")); x != "" || e != api.OK {
		t.Errorf("Embed: %s, %d", x, e)
	}
	back, e := network.Remove(n, 1, f)
	if x := unlike(back, open); x != "" || e != api.OK {
		t.Errorf("Remove: %s, %d", x, e)
	}
	two := net(t, "1 50", "1 2;3 0")
	n, e = network.Embed(two, 2, f)
	if x := unlike(n, net(t, "1 75", "11/5 2;27/10 1/10")); x != "" || e != api.OK {
		t.Errorf("Embed at port 2: %s, %d", x, e)
	}
}

func TestFixtureErrors(t *testing.T) {
	n := net(t, "50 75", "1/5 1;1 1/2")
	for _, c := range []struct {
		port  int
		f     network.Net[num.Num]
		e, e2 api.Errno // of Embed and of Remove
	}{
		{1, net(t, "50", "0"), api.ErrSize, api.ErrSize},
		{3, net(t, "50 50 50", "0 1 0;1 0 0;0 0 0"), api.ErrSize, api.ErrSize},
		{3, net(t, "1 2", "0 1;1 0"), api.ErrArg, api.ErrArg},
		{0, net(t, "50 50", "0 1;1 0"), api.ErrArg, api.ErrArg},
		{1, net(t, "1 2", "0 0;0 5"), api.ErrImpedance, api.ErrImpedance},
		{1, net(t, "50 75", "0 1;1 0"), api.ErrImpedance, api.OK},
		{2, net(t, "50 75", "0 1;1 0"), api.OK, api.ErrImpedance},
		{1, net(t, "50 50", "0 1;1 5"), api.ErrSingular, api.OK},
		{2, net(t, "75 75", "0 1;1 2"), api.ErrSingular, api.OK},
		{1, net(t, "50 50", "0 0;1 0"), api.OK, api.ErrSingular},
		{1, net(t, "50 50", "0 1;0 0"), api.OK, api.ErrSingular},
		{1, net(t, "50 50", "0 0;0 1"), api.OK, api.ErrSingular},
		{1, net(t, "50 50", "0 1;1 -5"), api.OK, api.ErrSingular},
		{1, net(t, "50 50", "6/5 1;1 1"), api.OK, api.ErrSingular},
		{1, net(t, "50 50", "7/10 1;1 1"), api.OK, api.OK},
	} {
		r, e := network.Embed(n, c.port, c.f)
		q, e2 := network.Remove(n, c.port, c.f)
		if c.e != api.OK {
			fails(t, "Embed of "+netText(c.f), r, e, c.e)
		} else if e != api.OK || r.Ports() != 2 {
			t.Errorf("Embed of %s: %d", netText(c.f), e)
		}
		if c.e2 != api.OK {
			fails(t, "Remove of "+netText(c.f), q, e2, c.e2)
		} else if e2 != api.OK || q.Ports() != 2 {
			t.Errorf("Remove of %s: %d", netText(c.f), e2)
		}
	}
}

// TestEmbedding is P4.4.
func TestEmbedding(t *testing.T) {
	d := dice(3)
	embedded, removed, stacked := 0, 0, 0
	for i := range 300 {
		ports := i%6 + 1
		n := d.net(t, d.refs(ports))
		port := d.below(ports) + 1
		z, _ := n.Ref(port)
		f := d.net(t, []num.Num{d.refs(1)[0], z})
		b, _ := f.At(1, 2)
		c, _ := f.At(2, 1)
		r, e := network.Embed(n, port, f)
		if e == api.OK && b.Clear() && c.Clear() {
			embedded++
			back, e := network.Remove(r, port, f)
			if x := unlike(back, n); x != "" || e != api.OK {
				t.Errorf("Remove of Embed: %s, %d", x, e)
			}
		}
		swapped, _ := network.Renumber(f, []int{2, 1})
		if q, e := network.Remove(n, port, swapped); e == api.OK {
			removed++
			back, e := network.Embed(q, port, swapped)
			if x := unlike(back, n); x != "" || e != api.OK {
				t.Errorf("Embed of Remove: %s, %d", x, e)
			}
		}
		// The ports of the stack are those of n and then those of f; port 1 of f comes to the place of the joined port.
		s, _ := network.Stack(n, f)
		joined, g := network.Join(s, [][2]int{{port, ports + 2}})
		var order []int
		for p := 1; p < ports; p++ {
			order = append(order, p)
		}
		order = append(order[:port-1], append([]int{ports}, order[port-1:]...)...)
		if g == api.OK {
			stacked++
			joined, g = network.Renumber(joined, order)
		}
		if x := unlike(joined, r); x != "" || g != e {
			t.Errorf("Embed is not Join of Stack: %s, %d, %d", x, e, g)
		}
	}
	if embedded < 150 || removed < 150 || stacked < 200 {
		t.Errorf("%d, %d, %d of 300", embedded, removed, stacked)
	}
}

// TestEmbeddingTwice is the part of P4.4 about two ports.
func TestEmbeddingTwice(t *testing.T) {
	d := dice(4)
	fine := 0
	for i := range 100 {
		n := d.net(t, flat(i%4+2))
		ports := d.order(n.Ports())
		f, g := d.net(t, flat(2)), d.net(t, flat(2))
		x, e1 := network.Embed(n, ports[0], f)
		x, e2 := network.Embed(x, ports[1], g)
		y, e3 := network.Embed(n, ports[1], g)
		y, e4 := network.Embed(y, ports[0], f)
		if e1 != api.OK || e2 != api.OK || e3 != api.OK || e4 != api.OK {
			continue
		}
		fine++
		if u := unlike(x, y); u != "" {
			t.Errorf("Embed in either order: %s", u)
		}
	}
	if fine < 50 {
		t.Errorf("%d of 100", fine)
	}
}
