package network_test

import (
	"math"
	"testing"

	"waveport/api"
	"waveport/network"
	"waveport/num"
)

func TestNew(t *testing.T) {
	eight, nine := num.Identity[num.Num](8), num.Identity[num.Num](9)
	for i, c := range []struct {
		z []num.Num
		s [][]num.Num
		e api.Errno
	}{
		{list(t, "50"), matrix(t, "1/2"), api.OK},
		{list(t, "1/3 1e-300"), matrix(t, "1 2;3i 4"), api.OK},
		{flat(8), eight, api.OK},
		{nil, nil, api.ErrSize},
		{[]num.Num{}, [][]num.Num{}, api.ErrSize},
		{nil, matrix(t, "1"), api.ErrSize},
		{list(t, "50"), nil, api.ErrSize},
		{list(t, "50"), [][]num.Num{nil}, api.ErrSize},
		{flat(9), nine, api.ErrSize},
		{flat(8), nine, api.ErrSize},
		{flat(9), eight, api.ErrSize},
		{flat(2), matrix(t, "1 2"), api.ErrSize},
		{flat(2), matrix(t, "1 2;3 4;5 6"), api.ErrSize},
		{flat(2), matrix(t, "1;2"), api.ErrSize},
		{flat(2), matrix(t, "1 2;3"), api.ErrSize},
		{flat(2), matrix(t, "1 2;3 4 5"), api.ErrSize},
		{flat(1), matrix(t, "1 2"), api.ErrSize},
		{list(t, "0 50"), matrix(t, "1 2;3"), api.ErrSize},
		{list(t, "0"), matrix(t, "1"), api.ErrArg},
		{list(t, "-50"), matrix(t, "1"), api.ErrArg},
		{list(t, "50i"), matrix(t, "1"), api.ErrArg},
		{list(t, "50 50+1i"), matrix(t, "1 2;3 4"), api.ErrArg},
		{list(t, "50 -1e-300"), matrix(t, "1 2;3 4"), api.ErrArg},
	} {
		n, e := network.New(c.z, c.s)
		if c.e != api.OK {
			fails(t, "New with "+listText(c.z)+" and "+matrixText(c.s), n, e, c.e)
		} else if e != api.OK || n.Ports() != len(c.z) || netText(n) != listText(c.z)+" | "+matrixText(c.s) {
			t.Errorf("case %d: %s, %d", i, netText(n), e)
		}
	}
}

func TestPorts(t *testing.T) {
	n := net(t, "50 75", "1 2;3 4")
	for _, c := range []struct {
		i, j    int
		ref, at string
	}{{1, 1, "50", "1"}, {1, 2, "50", "2"}, {2, 1, "75", "3"}, {2, 2, "75", "4"}} {
		z, e := n.Ref(c.i)
		x, f := n.At(c.i, c.j)
		if z.Text() != c.ref || x.Text() != c.at || e != api.OK || f != api.OK {
			t.Errorf("port %d, %d: %s, %d, %s, %d", c.i, c.j, z.Text(), e, x.Text(), f)
		}
	}
	var none network.Net[num.Num]
	for _, k := range []int{0, -1, 3, 9, math.MaxInt, math.MinInt} {
		z, e1 := n.Ref(k)
		x, e2 := n.At(k, 1)
		y, e3 := n.At(2, k)
		if e1 != api.ErrArg || e2 != api.ErrArg || e3 != api.ErrArg || z.Clear() || x.Clear() || y.Clear() {
			t.Errorf("port %d: %d, %d, %d", k, e1, e2, e3)
		}
	}
	_, e1 := none.Ref(1)
	_, e2 := none.At(1, 1)
	_, e3 := none.At(0, 0)
	if none.Ports() != 0 || e1 != api.ErrArg || e2 != api.ErrArg || e3 != api.ErrArg {
		t.Errorf("no ports: %d, %d, %d", e1, e2, e3)
	}
}

func TestEqual(t *testing.T) {
	n, none := net(t, "50 75", "1 2;3 4"), network.Net[num.Num]{}
	if !network.Equal(n, net(t, "100/2 75", "1 4/2;3 4")) || !network.Equal(none, none) {
		t.Error("equal networks")
	}
	for _, m := range []network.Net[num.Num]{
		none, net(t, "50", "1"), net(t, "50 76", "1 2;3 4"), net(t, "75 50", "1 2;3 4"), net(t, "50 75 1", "1 2 0;3 4 0;0 0 0"),
		net(t, "50 75", "0 2;3 4"), net(t, "50 75", "1 1;3 4"), net(t, "50 75", "1 2;3i 4"), net(t, "50 75", "1 2;3 5"), net(t, "50 75", "1 3;2 4"),
	} {
		if network.Equal(n, m) || network.Equal(m, n) {
			t.Errorf("%s is %s", netText(m), netText(n))
		}
	}
}

func TestDrive(t *testing.T) {
	n := net(t, "50 75", "1/2 1/3;1/4 1/5")
	b, e := network.Drive(n, list(t, "2 3i"))
	if listText(b) != "1+1i 1/2+3/5i" || e != api.OK {
		t.Errorf("Drive: %s, %d", listText(b), e)
	}
	for _, a := range []string{"", "1", "1 2 3"} {
		if b, e := network.Drive(n, list(t, a)); len(b) != 0 || e != api.ErrSize {
			t.Errorf("Drive with %q: %s, %d", a, listText(b), e)
		}
	}
	var none network.Net[num.Num]
	if b, e := network.Drive(none, nil); len(b) != 0 || e != api.OK {
		t.Errorf("Drive without ports: %s, %d", listText(b), e)
	}
	if b, e := network.Drive(none, list(t, "1")); len(b) != 0 || e != api.ErrSize {
		t.Errorf("Drive of no port: %s, %d", listText(b), e)
	}
}

// spoil overwrites lists, also behind their ends.
func spoil(l ...[]num.Num) {
	for _, row := range l {
		for k := range row[:cap(row)] {
			row[:cap(row)][k] = num.Int(99)
		}
	}
}

// TestNetsStay is R4: it changes what networks were made of, and what was computed from them.
func TestNetsStay(t *testing.T) {
	const text, table = "50 25/2 | 2 1;1 3", "100 0;0 100"
	z, s, m := list(t, "50 12.5"), matrix(t, "2 1;1 3"), matrix(t, table)
	n := made(t, z, s)
	x, e1 := network.FromImpedance(z, m)
	y, e2 := network.FromAdmittance(z, m)
	r, e3 := network.Renormalize(x, z)
	before := netText(x) + netText(y) + netText(r)
	spoil(z)
	spoil(s...)
	spoil(m...)
	if netText(n) != text || e1+e2+e3 != api.OK {
		t.Errorf("a network shares memory with an argument: %s", netText(n))
	}
	b, _ := network.Drive(n, list(t, "1 2"))
	impedance, _ := network.Impedance(n)
	admittance, _ := network.Admittance(n)
	_, witness := network.Passive(n)
	spoil(b, witness)
	spoil(impedance...)
	spoil(admittance...)
	single, _ := network.Single(n, [][2]int{{1, 2}})
	back, _ := network.Mixed(single, [][2]int{{1, 2}})
	network.Join(back, nil)
	network.Terminate(n, 1, num.Int(3))
	network.Embed(n, 1, single)
	network.Remove(n, 1, single)
	network.Shrink(n)
	if netText(n) != text || netText(single) != "25 25 | 15/4 -1/4;5/4 5/4" || netText(back) != text {
		t.Errorf("a network has changed: %s, %s, %s", netText(n), netText(single), netText(back))
	}
	if netText(x)+netText(y)+netText(r) != before {
		t.Error("a network shares memory with an argument")
	}
}

// TestArgumentsStay is R4: it looks at the arguments, also behind their ends.
func TestArgumentsStay(t *testing.T) {
	const text, rows = "50 12.5 7", "2 1 7;1 3 7"
	z, m := list(t, text), matrix(t, rows)
	s := [][]num.Num{m[0][:2], m[1][:2]}
	n := made(t, z[:2], s)
	network.FromImpedance(z[:2], s)
	network.FromAdmittance(z[:2], s)
	network.Renormalize(n, z[:2])
	network.Drive(n, z[:2])
	order, pairs := [3]int{2, 1, 7}, [2][2]int{{1, 2}, {7, 7}}
	network.Renumber(n, order[:2])
	single, e := network.Single(n, pairs[:1])
	network.Mixed(single, pairs[:1])
	stacked, _ := network.Stack(single, single)
	network.Join(stacked, pairs[:1])
	if e != api.OK || order != [3]int{2, 1, 7} || pairs != [2][2]int{{1, 2}, {7, 7}} {
		t.Errorf("order %v, pairs %v, %d", order, pairs, e)
	}
	f, l := list(t, "1 2 3"), []network.Net[num.Num]{n, n, single}
	w, e := network.NewSweep(f[:2], l[:2])
	network.Resample(w, f[:2])
	if e != api.OK || listText(f) != "1 2 3" || !network.Equal(l[1], n) || !network.Equal(l[2], single) {
		t.Errorf("frequencies %s, %d", listText(f), e)
	}
	if listText(z) != listText(list(t, text)) || matrixText(m) != rows {
		t.Errorf("lists %s and %s", listText(z), matrixText(m))
	}
}

// TestOddArguments is P1 and R3: it calls the functions with the network without ports, and with numbers that are those of no port.
func TestOddArguments(t *testing.T) {
	var none network.Net[num.Num]
	n, two := net(t, "50 50", "1 2;3 4"), net(t, "50 50", "0 1;1 0")
	for _, port := range []int{0, -1, 3, 8, 9, 64, math.MaxInt, math.MinInt} {
		for what, f := range map[string]func(n network.Net[num.Num]) (network.Net[num.Num], api.Errno){
			"Terminate": func(n network.Net[num.Num]) (network.Net[num.Num], api.Errno) {
				return network.Terminate(n, port, num.Int(0))
			},
			"Embed":  func(n network.Net[num.Num]) (network.Net[num.Num], api.Errno) { return network.Embed(n, port, two) },
			"Remove": func(n network.Net[num.Num]) (network.Net[num.Num], api.Errno) { return network.Remove(n, port, two) },
			"Join": func(n network.Net[num.Num]) (network.Net[num.Num], api.Errno) {
				return network.Join(n, [][2]int{{port, 1}})
			},
			"Join as 2": func(n network.Net[num.Num]) (network.Net[num.Num], api.Errno) {
				return network.Join(n, [][2]int{{1, port}})
			},
			"Mixed": func(n network.Net[num.Num]) (network.Net[num.Num], api.Errno) {
				return network.Mixed(n, [][2]int{{port, 1}})
			},
			"Single": func(n network.Net[num.Num]) (network.Net[num.Num], api.Errno) {
				return network.Single(n, [][2]int{{1, port}})
			},
			"two joints": func(n network.Net[num.Num]) (network.Net[num.Num], api.Errno) {
				return network.Join(n, [][2]int{{1, 2}, {port, 1}})
			},
		} {
			r, e := f(n)
			fails(t, what, r, e, api.ErrArg)
			r, e = f(none)
			fails(t, what+" without ports", r, e, api.ErrArg)
		}
		r, e := network.Renumber(n, []int{1, port})
		fails(t, "Renumber", r, e, api.ErrArg)
	}
	for what, f := range map[string]func() (network.Net[num.Num], api.Errno){
		"Stack":       func() (network.Net[num.Num], api.Errno) { return network.Stack(none, none) },
		"Renumber":    func() (network.Net[num.Num], api.Errno) { return network.Renumber(none, nil) },
		"Join":        func() (network.Net[num.Num], api.Errno) { return network.Join(none, nil) },
		"Renormalize": func() (network.Net[num.Num], api.Errno) { return network.Renormalize(none, nil) },
		"Mixed":       func() (network.Net[num.Num], api.Errno) { return network.Mixed(none, nil) },
		"Single":      func() (network.Net[num.Num], api.Errno) { return network.Single(none, [][2]int{}) },
	} {
		n, e := f()
		fails(t, what+" without ports", n, e, api.OK)
	}
	r, e := network.Renumber(none, []int{1})
	fails(t, "Renumber of no port", r, e, api.ErrSize)
	r, e = network.Renormalize(none, flat(1))
	fails(t, "Renormalize of no port", r, e, api.ErrSize)
	r, e = network.Embed(n, 1, none)
	fails(t, "Embed with a fixture without ports", r, e, api.ErrSize)
	r, e = network.Remove(none, 0, none)
	fails(t, "Remove without ports", r, e, api.ErrSize)
	z, e1 := network.Impedance(none)
	y, e2 := network.Admittance(none)
	ok, w := network.Passive(none)
	r, k := network.Shrink(none)
	if len(z)+len(y)+len(w) != 0 || e1 != api.OK || e2 != api.OK || !ok || !network.Lossless(none) || !network.Reciprocal(none) || k != 1024 || r.Ports() != 0 {
		t.Error("the network without ports", e1, e2, ok, k)
	}
}
