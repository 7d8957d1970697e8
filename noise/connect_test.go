package noise_test

import (
	"math"
	"testing"

	"waveport/api"
	"waveport/network"
	"waveport/noise"
	"waveport/num"
)

func TestStack(t *testing.T) {
	a, b, none := noisy(t, "50 75", "1 2;3 4", "5 6;7 8"), noisy(t, "25", "1i", "9"), noise.Noisy[num.Num]{}
	x, e := noise.Stack(a, b)
	is(t, "Stack", x, e, noisy(t, "50 75 25", "1 2 0;3 4 0;0 0 1i", "5 6 0;7 8 0;0 0 9"))
	x, e = noise.Stack(b, a)
	is(t, "Stack", x, e, noisy(t, "25 50 75", "1i 0 0;0 1 2;0 3 4", "9 0 0;0 5 6;0 7 8"))
	x, e = noise.Stack(a, none)
	is(t, "Stack with no ports", x, e, a)
	x, e = noise.Stack(none, a)
	is(t, "Stack on no ports", x, e, a)
	x, e = noise.Stack(none, none)
	is(t, "Stack without ports", x, e, none)
	four := made(t, plain(t, flat(4), num.Identity[num.Num](4)), num.Identity[num.Num](4))
	x, e = noise.Stack(four, four)
	is(t, "Stack to eight ports", x, e, made(t, plain(t, flat(8), num.Identity[num.Num](8)), num.Identity[num.Num](8)))
	x, e = noise.Stack(x, b)
	fails(t, "Stack to nine ports", x, e, api.ErrSize)
}

func TestRenumber(t *testing.T) {
	n := noisy(t, "1 2 3", "11 12 13;21 22 23;31 32 33", "1 2 3;4 5 6;7 8 9")
	x, e := noise.Renumber(n, []int{2, 3, 1})
	is(t, "Renumber", x, e, noisy(t, "2 3 1", "22 23 21;32 33 31;12 13 11", "5 6 4;8 9 7;2 3 1"))
	for _, c := range []struct {
		order []int
		e     api.Errno
	}{
		{nil, api.ErrSize}, {[]int{1, 2}, api.ErrSize}, {[]int{1, 2, 3, 4}, api.ErrSize}, {[]int{0, 1, 2}, api.ErrArg}, {[]int{1, 2, 4}, api.ErrArg}, {[]int{1, math.MaxInt, 1}, api.ErrArg}, {[]int{1, 1, 4}, api.ErrTwice}, {[]int{3, 2, 3}, api.ErrTwice},
	} {
		x, e := noise.Renumber(n, c.order)
		fails(t, "Renumber", x, e, c.e)
	}
	x, e = noise.Renumber(noise.Noisy[num.Num]{}, nil)
	fails(t, "Renumber without ports", x, e, api.OK)
}

func TestJoin(t *testing.T) {
	line := noisy(t, "50 50", "0 1/2;1/2 0", "1 2i;-2i 3")
	load := noisy(t, "50", "0", "7")
	s, _ := noise.Stack(load, line)
	x, e := noise.Join(s, [][2]int{{1, 2}})
	is(t, "a load at a line", x, e, noisy(t, "50", "0", "19/4")) // 3, and a quarter of 7
	x, e = noise.Join(s, [][2]int{{3, 1}})
	is(t, "a load at the other end", x, e, noisy(t, "50", "0", "11/4"))
	two, _ := noise.Stack(line, line)
	x, e = noise.Join(two, [][2]int{{2, 3}})
	// Port 1 hears its own wave, and half of that of port 3; port 4 likewise its own and that of port 2.
	is(t, "two lines", x, e, noisy(t, "50 50", "0 1/4;1/4 0", "5/4 2i;-2i 15/4"))
	ring := noisy(t, "50 50 50", "0 1/2 0;1/2 0 0;1 1 0", "1 0 0;0 1 0;0 0 5")
	x, e = noise.Join(ring, [][2]int{{1, 2}})
	is(t, "a ring", x, e, noisy(t, "50", "0", "13"))
	for _, joints := range [][][2]int{nil, {}} {
		x, e = noise.Join(s, joints)
		is(t, "Join without joints", x, e, s)
		x, e = noise.Join(noise.Noisy[num.Num]{}, joints)
		fails(t, "Join without ports", x, e, api.OK)
	}
	n := noisy(t, "1 2 1 2 3", "0 1 0 0 0;0 0 1 0 0;1 0 0 0 0;0 0 0 0 1;0 0 0 1 0", "0 0 0 0 0;0 0 0 0 0;0 0 0 0 0;0 0 0 0 0;0 0 0 0 0")
	for _, c := range []struct {
		joints [][2]int
		e      api.Errno
	}{
		{[][2]int{{1, 3}, {2, 4}}, api.ErrSingular}, {[][2]int{{0, 1}}, api.ErrArg}, {[][2]int{{1, 6}}, api.ErrArg}, {[][2]int{{math.MinInt, 1}}, api.ErrArg},
		{[][2]int{{1, 1}}, api.ErrTwice}, {[][2]int{{1, 3}, {2, 3}}, api.ErrTwice}, {[][2]int{{1, 3}, {0, 1}}, api.ErrArg}, {[][2]int{{1, 2}}, api.ErrImpedance}, {[][2]int{{1, 3}, {4, 5}, {0, 0}}, api.ErrImpedance},
	} {
		x, e := noise.Join(n, c.joints)
		fails(t, "Join", x, e, c.e)
	}
	x, e = noise.Join(line, [][2]int{{1, 2}})
	fails(t, "no port left", x, e, api.ErrSize)
}

func TestTerminate(t *testing.T) {
	line := own(t, net(t, "50 50", "0 1/2;1/2 0"), num.Int(290))
	for _, c := range []struct{ g, temp, s, want string }{
		{"0", "290", "0", "14500"}, {"0", "0", "0", "10875"}, {"-1", "290", "-1/4", "54375/4"}, {"-1", "0", "-1/4", "54375/4"}, {"1i", "77", "1/4i", "54375/4"}, {"1/2", "2", "1/8", "185175/16"},
	} {
		x, e := noise.Terminate(line, 2, parse(t, c.g), parse(t, c.temp))
		is(t, "Terminate with "+c.g+" at "+c.temp, x, e, noisy(t, "50", c.s, c.want))
	}
	n := noisy(t, "1 2 3", "0 1 2;3 0 4;5 6 0", "1 0 0;0 1 0;0 0 1")
	x, e := noise.Terminate(n, 1, num.Int(2), num.Int(5)) // the load sends 5 (1 - 4) = -15
	is(t, "Terminate at port 1", x, e, noisy(t, "2 3", "6 16;16 20", "-98 -165;-165 -274"))
	one := noisy(t, "50", "1/2", "3")
	for _, c := range []struct {
		n    noise.Noisy[num.Num]
		port int
		g    string
		temp string
		e    api.Errno
	}{
		{line, 0, "0", "1", api.ErrArg}, {line, 3, "0", "1", api.ErrArg}, {line, math.MaxInt, "0", "1", api.ErrArg}, {one, 2, "0", "1", api.ErrArg}, {one, 1, "0", "1", api.ErrSize}, {one, 1, "2", "1", api.ErrSize},
		{noise.Noisy[num.Num]{}, 1, "0", "1", api.ErrArg}, {noisy(t, "5 5", "0 0;0 1/2", "0 0;0 0"), 2, "2", "1", api.ErrSingular},
		{line, 1, "0", "-1", api.ErrArg}, {line, 1, "0", "1i", api.ErrArg}, {one, 1, "0", "-1/7", api.ErrArg}, {noisy(t, "5 5", "0 0;0 1/2", "0 0;0 0"), 2, "2", "1-1i", api.ErrArg},
	} {
		x, e := noise.Terminate(c.n, c.port, parse(t, c.g), parse(t, c.temp))
		fails(t, "Terminate with "+c.g+" at "+c.temp, x, e, c.e)
	}
}

func TestRenormalize(t *testing.T) {
	x, e := noise.Renormalize(own(t, net(t, "50", "0"), num.Int(290)), list(t, "100"))
	is(t, "a matched load at 100", x, e, own(t, net(t, "100", "-1/3"), num.Int(290)))
	if text := matrixText(correlation(x)); text != "232000/9" {
		t.Errorf("the noise of a matched load at 100: %s", text)
	}
	y, e := noise.Renormalize(x, list(t, "50"))
	is(t, "back at 50", y, e, noisy(t, "50", "0", "14500"))
	n := noisy(t, "50 50", "1 0;0 1", "4 8;8i 12") // open ports: the noise is currents, which stay
	y, e = noise.Renormalize(n, list(t, "100 25"))
	is(t, "open ports", y, e, noisy(t, "100 25", "1 0;0 1", "16 8;8i 3"))
	n = noisy(t, "50 50", "-1 0;0 -1", "4 8;8i 12") // shorts: the noise is voltages, which stay
	y, e = noise.Renormalize(n, list(t, "100 25"))
	is(t, "shorts", y, e, noisy(t, "100 25", "-1 0;0 -1", "4 8;8i 12"))
	for _, c := range []struct {
		s, z string
		e    api.Errno
	}{
		{"0 0;0 0", "", api.ErrSize}, {"0 0;0 0", "50", api.ErrSize}, {"0 0;0 0", "50 50 50", api.ErrSize}, {"0 0;0 0", "-1", api.ErrSize}, {"0 0;0 0", "50 0", api.ErrArg}, {"0 0;0 0", "50i 50", api.ErrArg}, {"3 0;0 0", "100 -1", api.ErrArg}, {"3 0;0 0", "100 50", api.ErrNone},
	} {
		x, e := noise.Renormalize(made(t, net(t, "50 50", c.s), matrix(t, "1 2;3 4")), list(t, c.z))
		fails(t, "Renormalize to "+c.z, x, e, c.e)
	}
	var none noise.Noisy[num.Num]
	x, e = noise.Renormalize(none, nil)
	fails(t, "Renormalize without ports", x, e, api.OK)
	x, e = noise.Renormalize(none, flat(1))
	fails(t, "Renormalize of no port", x, e, api.ErrSize)
}

// outside is an equation for the waves at a port: what enters there is what the ports give back of the waves that leave them, and a wave from a source.
type outside struct {
	port int
	back num.Num
}

// heard returns the rows of the matrix that carries the noise waves of all ports, and behind them those of the sources outside, to the waves that leave; false if the waves have no unique solution. A port without an entry gets nothing back.
func heard(s [][]num.Num, around map[int]outside) ([][]num.Num, bool) {
	n := len(s)
	m := make([][]num.Num, 2*n) // the unknowns are the waves that enter, and those that leave
	for i := range n {
		m[i], m[n+i] = make([]num.Num, 2*n), make([]num.Num, 2*n)
		for k, x := range s[i] {
			m[i][k] = x.Neg()
		}
		m[i][n+i], m[n+i][i] = num.Int(1), num.Int(1)
		if o, ok := around[i+1]; ok {
			m[n+i][n+o.port-1] = o.back.Neg()
		}
	}
	inverse, e := num.Inverse(m)
	if e != api.OK {
		return nil, false
	}
	return inverse[n:], true
}

// spread returns the correlation of sums of noise waves that have the correlation c: each row of p is one sum.
func spread(p, c [][]num.Num) [][]num.Num {
	out := make([][]num.Num, len(p))
	for i, row := range p {
		for _, other := range p {
			var x num.Num
			for k, f := range row {
				for l, g := range other {
					x = x.Add(f.Mul(c[k][l]).Mul(g.Conj()))
				}
			}
			out[i] = append(out[i], x)
		}
	}
	return out
}

// withSources returns the correlation matrix c with a source behind each port; only that with an index has noise.
func withSources(c [][]num.Num, at int, x num.Num) [][]num.Num {
	n := len(c)
	out := make([][]num.Num, 2*n)
	for i := range out {
		out[i] = make([]num.Num, 2*n)
		if i < n {
			copy(out[i], c[i])
		}
	}
	out[n+at][n+at] = x
	return out
}

// without returns the rows of m but those of the ports that are gone.
func without(m [][]num.Num, gone map[int]outside) [][]num.Num {
	var out [][]num.Num
	for i, row := range m {
		if _, ok := gone[i+1]; !ok {
			out = append(out, row)
		}
	}
	return out
}

// TestWaves is P5.1 for Join and Terminate: it compares them with the solution of all equations of the waves.
func TestWaves(t *testing.T) {
	d := dice(2)
	fine, singular := 0, 0
	check := func(what string, n noise.Noisy[num.Num], e api.Errno, plain network.Net[num.Num], f api.Errno, p [][]num.Num, ok bool, c [][]num.Num) {
		t.Helper()
		if e != f {
			t.Errorf("%s: %d, that of the network %d", what, e, f)
		}
		if !ok {
			singular++
			fails(t, what, n, e, api.ErrSingular)
			return
		}
		fine++
		is(t, what, n, e, made(t, plain, spread(p, c)))
	}
	for i := range 150 {
		ports := i%6 + 2
		n := d.noisy(t, flat(ports))
		if joints := d.pairs(ports, d.below((ports+1)/2)); len(joints) > 0 {
			around := map[int]outside{}
			for _, j := range joints {
				around[j[0]], around[j[1]] = outside{j[1], num.Int(1)}, outside{j[0], num.Int(1)}
			}
			x, e := noise.Join(n, joints)
			y, f := network.Join(n.Net(), joints)
			p, ok := heard(elements(n.Net()), around)
			check("Join", x, e, y, f, without(p, around), ok, withSources(correlation(n), 0, num.Num{}))
		}
		port, g, temp := d.below(ports)+1, d.small(), d.kelvin()
		if i%3 == 0 {
			g = d.sign()
		}
		around := map[int]outside{port: {port, g}}
		x, e := noise.Terminate(n, port, g, temp)
		y, f := network.Terminate(n.Net(), port, g)
		p, ok := heard(elements(n.Net()), around)
		load := temp.Mul(num.Int(50)).Mul(num.Int(1).Sub(g.Norm()))
		check("Terminate", x, e, y, f, without(p, around), ok, withSources(correlation(n), port-1, load))
	}
	if fine < 150 || singular < 5 {
		t.Errorf("%d exist, %d do not", fine, singular)
	}
}

// TestVoltages is P5.1 for Renormalize: an impedance equal to the new one at each port hears the noise as a wave.
func TestVoltages(t *testing.T) {
	d := dice(3)
	fine := 0
	for i := range 60 {
		z := d.refs(i%5 + 1)
		n, to := d.noisy(t, z), d.refs(len(z))
		x, e := noise.Renormalize(n, to)
		y, f := network.Renormalize(n.Net(), to)
		// No wave of the new kind enters: the voltage is -z' times the current, so the old wave that enters is (z' - z)/(z' + z) times the one that leaves, and the new one that leaves is the voltage.
		around := map[int]outside{}
		for p := range z {
			around[p+1] = outside{p + 1, quotient(to[p].Sub(z[p]), to[p].Add(z[p]))}
		}
		p, ok := heard(elements(n.Net()), around)
		if e != f || ok != (e == api.OK) {
			t.Errorf("Renormalize: %d, that of the network %d, %v", e, f, ok)
		}
		if !ok {
			continue
		}
		fine++
		for i, row := range p {
			for k, b := range row {
				row[k] = b.Add(b.Mul(around[i+1].back))
			}
		}
		is(t, "Renormalize", x, e, made(t, y, spread(p, withSources(correlation(n), 0, num.Num{}))))
	}
	if fine < 30 {
		t.Errorf("%d of 60 exist", fine)
	}
}
