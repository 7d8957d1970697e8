package noise_test

import (
	"testing"

	"waveport/api"
	"waveport/box"
	"waveport/network"
	"waveport/noise"
	"waveport/num"
)

// boxed returns a network of boxes around the elements of both matrices of n.
func boxed(t *testing.T, d *dice, n noise.Noisy[num.Num]) noise.Noisy[box.Box] {
	t.Helper()
	if n.Net().Ports() == 0 {
		return noise.Noisy[box.Box]{}
	}
	return made(t, plain(t, refs(n.Net()), around(t, d, elements(n.Net()))), around(t, d, correlation(n)))
}

// tally counts the results over boxes.
type tally map[string]int

// encloses is P5.6 for a matrix.
func encloses(t *testing.T, what string, m [][]num.Num, b [][]box.Box) {
	t.Helper()
	if len(m) != len(b) {
		t.Errorf("%s: %d rows of boxes, want %d", what, len(b), len(m))
		return
	}
	for i, row := range m {
		for k, x := range row {
			if !b[i][k].Has(x) {
				t.Errorf("%s: %s is not within %v, %v", what, x.Text(), b[i][k].Lo(), b[i][k].Hi())
			}
		}
	}
}

// networks is P5.6 for one call of a function: of numbers, and of boxes around them.
func (c tally) networks(t *testing.T, what string, n noise.Noisy[num.Num], e api.Errno, b noise.Noisy[box.Box], f api.Errno) {
	t.Helper()
	if f != api.OK {
		fails(t, what+" of boxes", b, f, f)
		return
	}
	c[what]++
	if e != api.OK || listText(refs(n.Net())) != listText(refs(b.Net())) {
		t.Errorf("%s: %d, but boxes have a result", what, e)
		return
	}
	encloses(t, what, elements(n.Net()), elements(b.Net()))
	encloses(t, what, correlation(n), correlation(b))
}

// TestEnclosure is P5.6 and P3.
func TestEnclosure(t *testing.T) {
	d := dice(15)
	counts := tally{}
	for i := range 120 {
		ports := i%4 + 2
		n := d.noisy(t, flat(ports))
		b := boxed(t, &d, n)
		temp, to := d.kelvin(), d.refs(ports)
		x, e := noise.Own(n.Net(), temp)
		y, f := noise.Own(b.Net(), temp)
		counts.networks(t, "Own", x, e, y, f)
		counts.networks(t, "Quiet", noise.Quiet(n.Net()), api.OK, noise.Quiet(b.Net()), api.OK)
		other := d.noisy(t, flat(2))
		x, e = noise.Stack(n, other)
		y, f = noise.Stack(b, boxed(t, &d, other))
		counts.networks(t, "Stack", x, e, y, f)
		order, joints := d.order(ports), d.pairs(ports, d.below((ports-1)/2+1))
		x, e = noise.Renumber(n, order)
		y, f = noise.Renumber(b, order)
		counts.networks(t, "Renumber", x, e, y, f)
		x, e = noise.Join(n, joints)
		y, f = noise.Join(b, joints)
		counts.networks(t, "Join", x, e, y, f)
		x, e = noise.Renormalize(n, to)
		y, f = noise.Renormalize(b, to)
		counts.networks(t, "Renormalize", x, e, y, f)
		g := [][]num.Num{{quotient(d.small(), num.Int(3))}}
		r := around(t, &d, g)[0][0]
		port := d.below(ports) + 1
		x, e = noise.Terminate(n, port, g[0][0], temp)
		y, f = noise.Terminate(b, port, r, temp)
		counts.networks(t, "Terminate", x, e, y, f)
		t0 := temp.Add(num.Int(1))
		v, e := noise.Factor(other, g[0][0], t0)
		w, f := noise.Factor(boxed(t, &d, other), r, t0)
		if f == api.OK {
			counts["Factor"]++
			encloses(t, "Factor", [][]num.Num{{v}}, [][]box.Box{{w}})
			if e != api.OK {
				t.Errorf("Factor: %d, but boxes have a result", e)
			}
		}
	}
	for _, what := range []string{"Own", "Quiet", "Stack", "Renumber", "Join", "Renormalize", "Terminate", "Factor"} {
		if counts[what] < 60 {
			t.Errorf("%s: %d of 120 exist", what, counts[what])
		}
	}
}

// TestBoxes has results with known corners.
func TestBoxes(t *testing.T) {
	line := plain(t, flat(2), [][]box.Box{{between(t, 0, 0), between(t, 0.5, 1)}, {between(t, 0.5, 1), between(t, 0, 0)}})
	x := own(t, line, num.Int(290))
	for i, row := range correlation(x) {
		for k, c := range row {
			if hi := map[bool]float64{true: 10875}[i == k]; c.Lo() != 0 || c.Hi() != complex(hi, 0) {
				t.Errorf("Own: %v, %v at %d, %d", c.Lo(), c.Hi(), i, k)
			}
		}
	}
	y, e := noise.Terminate(x, 2, between(t, 0, 0.5), num.Int(290))
	// What comes from port 1 is from 0 to 10875, from port 2 up to 10875/4, and from the load from 14500 * 3/4 / 4 to 14500.
	if c := correlation(y)[0][0]; c.Lo() != 14500.0*3/16 || c.Hi() != 10875+10875.0/4+14500 || e != api.OK {
		t.Errorf("Terminate: %v, %v, %d", c.Lo(), c.Hi(), e)
	}
	f, e := noise.Factor(x, between(t, 0, 0), num.Int(290))
	if f.Lo() != 1 || real(f.Hi()) < 4 || real(f.Hi()) > 4.000001 || imag(f.Hi()) != 0 || e != api.OK {
		t.Errorf("Factor: %v, %v, %d", f.Lo(), f.Hi(), e)
	}
	if z := made(t, line, [][]box.Box{{between(t, 0, 10875), between(t, 0, 0)}, {between(t, 0, 0), between(t, 0, 10875)}}); !noise.Equal(x, z) {
		t.Error("equal boxes")
	}
	if z := made(t, line, [][]box.Box{{between(t, 0, 10875), between(t, 0, 0)}, {between(t, 0, 0), between(t, 1, 10875)}}); noise.Equal(x, z) {
		t.Error("boxes that differ")
	}
}

// TestUnsure has boxes that contain numbers for which there is no result.
func TestUnsure(t *testing.T) {
	zero, one := between(t, 0, 0), between(t, 1, 1)
	device := func(s11, s21, s22 box.Box) noise.Noisy[box.Box] {
		return noise.Quiet(plain(t, flat(2), [][]box.Box{{s11, one}, {s21, s22}}))
	}
	for i, c := range []struct {
		s21, g box.Box
		e      api.Errno
	}{{one, zero, api.OK}, {between(t, 0, 1), zero, api.ErrZero}, {one, between(t, 0, 1), api.ErrZero}, {between(t, 0.25, 1), between(t, -0.5, 0.5), api.OK}} {
		if f, e := noise.Factor(device(zero, c.s21, zero), c.g, num.Int(290)); e != c.e || e != api.OK && !f.Same(zero) {
			t.Errorf("case %d: %v, %v, %d", i, f.Lo(), f.Hi(), e)
		}
	}
	x, e := noise.Terminate(device(zero, one, between(t, 0.5, 1)), 2, between(t, 0.5, 1), num.Int(290))
	fails(t, "Terminate", x, e, api.ErrSingular)
	both, _ := noise.Stack(device(zero, one, between(t, 0.5, 1)), device(one, one, zero))
	x, e = noise.Join(both, [][2]int{{2, 3}})
	fails(t, "Join", x, e, api.ErrSingular)
	x, e = noise.Renormalize(noise.Quiet(plain(t, flat(1), [][]box.Box{{between(t, 2, 4)}})), list(t, "100"))
	fails(t, "Renormalize", x, e, api.ErrNone)
}

// TestUnsureNoise has boxes for which the elimination of network.Join ends, but that of the transposed matrix stops.
func TestUnsureNoise(t *testing.T) {
	d := dice(16)
	found := 0
	for range 4000 {
		s := num.Lift[box.Box](d.matrix(5, 5, d.sign))
		for _, row := range s {
			for k := range row {
				w := float64(d.below(3)) / 4
				row[k] = row[k].Add(between(t, -w, w))
			}
		}
		n, joints := plain(t, flat(5), s), [][2]int{{1, 2}, {3, 4}}
		_, e := network.Join(n, joints)
		x, f := noise.Join(noise.Quiet(n), joints)
		switch {
		case e != api.OK:
			fails(t, "Join", x, f, e)
		case f != api.OK:
			fails(t, "Join", x, f, api.ErrSingular)
			found++
		}
	}
	if found == 0 {
		t.Error("no such boxes")
	}
}
