package network

import (
	"slices"

	"waveport/api"
	"waveport/num"
)

// fixture is the scattering matrix of a network with two ports.
type fixture[T num.Field[T]] [2][2]T

// fixtureAt returns the matrix of the fixture f, of which port side has to fit a port of n.
func fixtureAt[T num.Field[T]](n Net[T], port int, f Net[T], side int) (fixture[T], api.Errno) {
	switch {
	case f.Ports() != 2:
		return fixture[T]{}, api.ErrSize
	case !n.hasPort(port):
		return fixture[T]{}, api.ErrArg
	case !f.z[side-1].Same(n.z[port-1]):
		return fixture[T]{}, api.ErrImpedance
	}
	return fixture[T]{{f.s[0][0], f.s[0][1]}, {f.s[1][0], f.s[1][1]}}, api.OK
}

// swap is what becomes of a network at the port with the index p when a fixture is put there, or taken from there.
type swap[T num.Field[T]] struct {
	p           int
	z           num.Num           // the new reference impedance of the port
	own         T                 // the new element of the port itself
	e           T                 // what the other elements of its row and its column are divided by; it is Clear
	row, column T                 // what they are then multiplied by
	others      func(x, u, y T) T // the new element for x, the element of its row in column p, divided by e, and that of its column in row p
}

// swapped returns n after a swap.
func swapped[T num.Field[T]](n Net[T], w swap[T]) Net[T] {
	s := copied(n.s)
	for i, row := range s {
		if i == w.p {
			continue
		}
		u, _ := n.s[i][w.p].Div(w.e)
		for j := range row {
			if j != w.p {
				row[j] = w.others(n.s[i][j], u, n.s[w.p][j])
			}
		}
		v, _ := n.s[w.p][i].Div(w.e)
		row[w.p], s[w.p][i] = u.Mul(w.column), w.row.Mul(v)
	}
	s[w.p][w.p] = w.own
	z := slices.Clone(n.z)
	z[w.p] = w.z
	return Net[T]{z, s}
}

// Embed returns n with port 2 of the fixture f connected to a port.
func Embed[T num.Field[T]](n Net[T], port int, f Net[T]) (Net[T], api.Errno) {
	m, err := fixtureAt(n, port, f, 2)
	if err != api.OK {
		return Net[T]{}, err
	}
	p := port - 1
	a, b, c, d := m[0][0], m[0][1], m[1][0], m[1][1]
	e := of[T](num.Int(1)).Sub(d.Mul(n.s[p][p]))
	q, err := n.s[p][p].Div(e)
	if err != api.OK {
		return Net[T]{}, api.ErrSingular
	}
	others := func(x, u, y T) T { return x.Add(u.Mul(d.Mul(y))) }
	return swapped(n, swap[T]{p: p, z: f.z[0], own: a.Add(b.Mul(c.Mul(q))), e: e, row: b, column: c, others: others}), api.OK
}

// Remove returns the network that, embedded, is n.
func Remove[T num.Field[T]](n Net[T], port int, f Net[T]) (Net[T], api.Errno) {
	m, err := fixtureAt(n, port, f, 1)
	if err != api.OK {
		return Net[T]{}, err
	}
	p := port - 1
	a, b, c, d := m[0][0], m[0][1], m[1][0], m[1][1]
	rest := n.s[p][p].Sub(a)
	e := b.Mul(c).Add(d.Mul(rest))
	own, err := rest.Div(e)
	if err != api.OK || !b.Clear() || !c.Clear() {
		return Net[T]{}, api.ErrSingular
	}
	others := func(x, u, y T) T { return x.Sub(u.Mul(d.Mul(y))) }
	return swapped(n, swap[T]{p: p, z: f.z[1], own: own, e: e, row: c, column: b, others: others}), api.OK
}
