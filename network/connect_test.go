package network_test

import (
	"testing"

	"waveport/api"
	"waveport/network"
	"waveport/num"
)

func TestStack(t *testing.T) {
	a, b := net(t, "50 75", "1 2;3 4"), net(t, "25", "1i")
	s, e := network.Stack(a, b)
	if x := unlike(s, net(t, "50 75 25", "1 2 0;3 4 0;0 0 1i")); x != "" || e != api.OK {
		t.Errorf("Stack: %s, %d", x, e)
	}
	var none network.Net[num.Num]
	s, e = network.Stack(a, none)
	r, f := network.Stack(none, a)
	if !network.Equal(s, a) || !network.Equal(r, a) || e != api.OK || f != api.OK {
		t.Error("Stack with the network without ports", e, f)
	}
	four := made(t, flat(4), num.Identity[num.Num](4))
	s, e = network.Stack(four, four)
	if x := unlike(s, made(t, flat(8), num.Identity[num.Num](8))); x != "" || e != api.OK {
		t.Errorf("Stack to eight ports: %s, %d", x, e)
	}
	if r, e := network.Stack(s, none); !network.Equal(r, s) || e != api.OK {
		t.Errorf("eight ports and none: %d", e)
	}
	r, e = network.Stack(s, b)
	fails(t, "Stack to nine ports", r, e, api.ErrSize)
	r, e = network.Stack(b, s)
	fails(t, "Stack to nine ports", r, e, api.ErrSize)
}

func TestRenumber(t *testing.T) {
	n := net(t, "1 2 3", "11 12 13;21 22 23;31 32 33")
	r, e := network.Renumber(n, []int{2, 3, 1})
	if x := unlike(r, net(t, "2 3 1", "22 23 21;32 33 31;12 13 11")); x != "" || e != api.OK {
		t.Errorf("Renumber: %s, %d", x, e)
	}
	for _, c := range []struct {
		order []int
		e     api.Errno
	}{
		{nil, api.ErrSize}, {[]int{1, 2}, api.ErrSize}, {[]int{1, 2, 3, 4}, api.ErrSize}, {[]int{4, 4}, api.ErrSize},
		{[]int{0, 1, 2}, api.ErrArg}, {[]int{1, 2, 4}, api.ErrArg}, {[]int{1, 4, 1}, api.ErrArg},
		{[]int{1, 1, 2}, api.ErrTwice}, {[]int{3, 2, 3}, api.ErrTwice}, {[]int{1, 1, 4}, api.ErrTwice},
	} {
		r, e := network.Renumber(n, c.order)
		fails(t, "Renumber", r, e, c.e)
	}
}

func TestTerminate(t *testing.T) {
	series := net(t, "50 75", "1/2 1/2;1/2 1/2")
	for g, want := range map[string]string{"0": "1/2", "1": "1", "-1": "1/3"} {
		r, e := network.Terminate(series, 2, parse(t, g))
		if x := unlike(r, net(t, "50", want)); x != "" || e != api.OK {
			t.Errorf("Terminate with %s: %s, %d", g, x, e)
		}
	}
	r, e := network.Terminate(net(t, "1 2 3", "0 1 2;3 0 4;5 6 0"), 1, num.Int(2))
	if x := unlike(r, net(t, "2 3", "6 16;16 20")); x != "" || e != api.OK {
		t.Errorf("Terminate at port 1: %s, %d", x, e)
	}
	r, e = network.Terminate(series, 2, num.Int(2))
	fails(t, "a loop with the gain 1", r, e, api.ErrSingular)
	one := net(t, "50", "1/2")
	r, e = network.Terminate(one, 1, num.Int(2))
	fails(t, "the only port", r, e, api.ErrSize)
	r, e = network.Terminate(one, 2, num.Int(2))
	fails(t, "Terminate at port 2 of 1", r, e, api.ErrArg)
}

func TestJoin(t *testing.T) {
	series := net(t, "50 50", "1/2 1/2;1/2 1/2")
	both, _ := network.Stack(series, series)
	for _, joint := range [][2]int{{2, 3}, {3, 2}, {1, 4}, {2, 4}} {
		r, e := network.Join(both, [][2]int{joint})
		if x := unlike(r, net(t, "50 50", "2/3 1/3;1/3 2/3")); x != "" || e != api.OK {
			t.Errorf("Join of %v: %s, %d", joint, x, e)
		}
	}
	n := net(t, "1 2 1 2 3", "0 1 0 0 0;0 0 1 0 0;1 0 0 0 0;0 0 0 0 1;0 0 0 1 0")
	for _, c := range []struct {
		joints [][2]int
		e      api.Errno
	}{
		{[][2]int{{1, 3}, {2, 4}}, api.ErrSingular}, // a wave runs around
		{[][2]int{{0, 1}}, api.ErrArg}, {[][2]int{{1, 6}}, api.ErrArg}, {[][2]int{{6, 6}}, api.ErrArg}, {[][2]int{{2, 0}}, api.ErrArg},
		{[][2]int{{1, 1}}, api.ErrTwice}, {[][2]int{{1, 3}, {1, 0}}, api.ErrTwice}, {[][2]int{{1, 3}, {2, 3}}, api.ErrTwice}, {[][2]int{{1, 3}, {3, 6}}, api.ErrTwice},
		{[][2]int{{1, 3}, {0, 1}}, api.ErrArg}, {[][2]int{{1, 3}, {2, 1}}, api.ErrTwice},
		{[][2]int{{1, 2}}, api.ErrImpedance}, {[][2]int{{1, 2}, {1, 1}}, api.ErrImpedance}, {[][2]int{{1, 3}, {4, 5}, {0, 0}}, api.ErrImpedance}, {[][2]int{{1, 3}, {0, 5}}, api.ErrArg},
	} {
		r, e := network.Join(n, c.joints)
		fails(t, "Join", r, e, c.e)
	}
	whole := net(t, "50 50", "0 1;1 0") // joined, it would be singular
	r, e := network.Join(whole, [][2]int{{1, 2}})
	fails(t, "no port left", r, e, api.ErrSize)
	r, e = network.Join(net(t, "50 75", "0 1;1 0"), [][2]int{{1, 2}})
	fails(t, "no port left, unequal impedances", r, e, api.ErrImpedance)
	r, e = network.Join(both, [][2]int{})
	if !network.Equal(r, both) || e != api.OK {
		t.Errorf("Join without joints: %d", e)
	}
	shared := net(t, "1 1 2 3", "0 0 0 1;0 0 0 0;0 0 0 0;0 1 0 0")
	r, e = network.Join(shared, [][2]int{{1, 2}})
	if x := unlike(r, net(t, "2 3", "0 0;0 1")); x != "" || e != api.OK {
		t.Errorf("a wave that goes through a joint: %s, %d", x, e)
	}
}

// circuit is networks side by side, with connections of their ports; for the tests it is solved as one system of equations, without networks of parts.
type circuit struct {
	s      [][]num.Num // of all ports
	joints [][2]int    // from 1 on
	loads  map[int]num.Num
}

// side returns the circuit of two networks without connections.
func side(a, b network.Net[num.Num]) circuit {
	n := a.Ports() + b.Ports()
	s := make([][]num.Num, n)
	for i := range s {
		s[i] = make([]num.Num, n)
	}
	for i, row := range elements(a) {
		copy(s[i], row)
	}
	for i, row := range elements(b) {
		copy(s[a.Ports()+i][a.Ports():], row)
	}
	return circuit{s: s}
}

// leave returns the waves that leave the ports that are not connected, if the waves in enter them, and whether there is just one solution.
func (c circuit) leave(in []num.Num) ([]num.Num, bool) {
	n := len(c.s)
	m, right := make([][]num.Num, 2*n), make([]num.Num, 2*n) // the unknowns are the waves that enter, and those that leave
	set := func(row, column int, x num.Num) { m[row][column] = m[row][column].Add(x) }
	from := make([]int, n) // where the wave that enters comes from
	for _, j := range c.joints {
		from[j[0]-1], from[j[1]-1] = j[1], j[0]
	}
	var free []int
	for i := range n {
		m[i], m[n+i] = make([]num.Num, 2*n), make([]num.Num, 2*n)
		set(i, n+i, num.Int(-1))
		for j, x := range c.s[i] {
			set(i, j, x)
		}
		set(n+i, i, num.Int(1))
		g, loaded := c.loads[i+1]
		switch {
		case loaded:
			set(n+i, n+i, g.Neg())
		case from[i] > 0:
			set(n+i, n+from[i]-1, num.Int(-1))
		default:
			right[n+i] = in[len(free)]
			free = append(free, i)
		}
	}
	x, e := num.Solve(m, right)
	if e != api.OK {
		return nil, false
	}
	var out []num.Num
	for _, i := range free {
		out = append(out, x[n+i])
	}
	return out, true
}

// driven tests that the waves of a network are those of a circuit.
func driven(t *testing.T, what string, n network.Net[num.Num], e api.Errno, c circuit, in []num.Num) bool {
	t.Helper()
	want, ok := c.leave(in)
	if !ok {
		fails(t, what, n, e, api.ErrSingular)
		return false
	}
	got, f := network.Drive(n, in)
	if listText(got) != listText(want) || e != api.OK || f != api.OK {
		t.Errorf("%s: %s, %d, want %s", what, listText(got), e, listText(want))
	}
	return true
}

// TestWaves is P4.2 for Join, Terminate, Embed and Stack.
func TestWaves(t *testing.T) {
	d := dice(1)
	fine := 0
	count := func(ok bool) {
		if ok {
			fine++
		}
	}
	for i := range 300 {
		ports := i%6 + 2
		n := d.net(t, flat(ports))
		if joints := d.pairs(ports, d.below((ports+1)/2)); len(joints) > 0 {
			c := side(n, network.Net[num.Num]{})
			c.joints = joints
			r, e := network.Join(n, joints)
			count(driven(t, "Join", r, e, c, d.list(ports-2*len(joints))))
		}
		port, g := d.below(ports)+1, d.small()
		if i%3 == 0 {
			g = d.plain()
		}
		c := side(n, network.Net[num.Num]{})
		c.loads = map[int]num.Num{port: g}
		r, e := network.Terminate(n, port, g)
		count(driven(t, "Terminate", r, e, c, d.list(ports-1)))
		f := d.net(t, flat(2))
		c = side(f, n)
		c.joints = [][2]int{{2, 2 + port}}
		r, e = network.Embed(n, port, f)
		in := d.list(ports)
		if e == api.OK { // port 1 of the fixture is the first of the circuit, and port p of the network
			order := []int{port}
			for p := 1; p <= ports; p++ {
				if p != port {
					order = append(order, p)
				}
			}
			r, _ = network.Renumber(r, order)
		}
		count(driven(t, "Embed", r, e, c, in))
		other := d.net(t, d.refs(8-ports))
		r, e = network.Stack(n, other)
		driven(t, "Stack", r, e, side(n, other), d.list(8))
	}
	if fine < 500 || fine > 800 {
		t.Errorf("%d of about 900 exist", fine)
	}
}

// renumbered returns joints with the numbers that their ports have after another joint.
func renumbered(joints [][2]int, done [2]int) [][2]int {
	var out [][2]int
	for _, j := range joints {
		for k, p := range j {
			for _, q := range done {
				if q < p {
					j[k]--
				}
			}
		}
		out = append(out, j)
	}
	return out
}

// TestJoinInSteps is P4.3.
func TestJoinInSteps(t *testing.T) {
	d := dice(2)
	fine, pending := 0, 0
	for i := range 200 {
		ports := i%4 + 5
		n := d.net(t, flat(ports))
		joints := d.pairs(ports, 2+d.below(max(1, (ports-1)/2-1)))
		at, e := network.Join(n, joints)
		step := n
		left := joints
		for len(left) > 0 {
			k := d.below(len(left))
			one := left[k]
			next, f := network.Join(step, [][2]int{one})
			if f != api.OK {
				break
			}
			var rest [][2]int
			rest = append(append(rest, left[:k]...), left[k+1:]...)
			step, left = next, renumbered(rest, one)
		}
		switch {
		case e == api.OK && len(left) == 0:
			fine++
			if x := unlike(step, at); x != "" {
				t.Errorf("Join of %v in steps: %s", joints, x)
			}
		case len(left) == 0:
			t.Errorf("Join of %v exists in steps, but not at once", joints)
		default:
			pending++
		}
	}
	if fine < 100 || pending < 5 {
		t.Errorf("%d exist, %d do not", fine, pending)
	}
}

// TestStackAndRenumber is the part of P4.3 about them.
func TestStackAndRenumber(t *testing.T) {
	d := dice(12)
	for range 50 {
		a, b, c := d.net(t, d.refs(d.below(3)+1)), d.net(t, d.refs(d.below(3)+1)), d.net(t, d.refs(d.below(2)+1))
		ab, _ := network.Stack(a, b)
		bc, _ := network.Stack(b, c)
		left, e := network.Stack(ab, c)
		right, f := network.Stack(a, bc)
		if x := unlike(left, right); x != "" || e != api.OK || f != api.OK {
			t.Errorf("Stack is not associative: %s, %d, %d", x, e, f)
		}
		order := d.order(left.Ports())
		inverse := make([]int, len(order))
		for i, p := range order {
			inverse[p-1] = i + 1
		}
		there, e := network.Renumber(left, order)
		back, f := network.Renumber(there, inverse)
		if x := unlike(back, left); x != "" || e != api.OK || f != api.OK {
			t.Errorf("Renumber by %v and back: %s, %d, %d", order, x, e, f)
		}
		for i, p := range order {
			for j, q := range order {
				x, _ := there.At(i+1, j+1)
				y, _ := left.At(p, q)
				if !x.Same(y) {
					t.Errorf("Renumber by %v: element %d, %d", order, i+1, j+1)
				}
			}
		}
	}
}
