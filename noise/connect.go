package noise

import (
	"slices"

	"waveport/api"
	"waveport/network"
	"waveport/num"
)

// Stack returns the network that consists of a and b without a connection.
func Stack[T num.Field[T]](a, b Noisy[T]) (Noisy[T], api.Errno) {
	net, e := network.Stack(a.net, b.net)
	if e != api.OK {
		return Noisy[T]{}, e
	}
	first := len(a.c)
	c := square(net.Ports(), func(i, k int) T {
		switch {
		case i < first && k < first:
			return a.c[i][k]
		case i >= first && k >= first:
			return b.c[i-first][k-first]
		}
		return of[T](num.Num{})
	})
	return Noisy[T]{net, c}, api.OK
}

// Renumber returns the network whose port i is port order[i-1] of n.
func Renumber[T num.Field[T]](n Noisy[T], order []int) (Noisy[T], api.Errno) {
	net, e := network.Renumber(n.net, order)
	if e != api.OK {
		return Noisy[T]{}, e
	}
	return Noisy[T]{net, square(len(order), func(i, k int) T { return n.c[order[i]-1][order[k]-1] })}, api.OK
}

// remaining returns the indices of n ports without those that are taken.
func remaining(n int, taken []int) []int {
	var left []int
	for i := range n {
		if !slices.Contains(taken, i) {
			left = append(left, i)
		}
	}
	return left
}

// carrier returns the row of a matrix that carries the noise waves of n ports to the port with the index i: its own by 1, those of the ports from by the factors, all others by 0.
func carrier[T num.Field[T]](n, i int, from []int, factors []T) []T {
	row := num.Identity[T](n)[i]
	for x, k := range from {
		row[k] = factors[x]
	}
	return row
}

// Join returns n with the two ports of each joint connected, all at once.
func Join[T num.Field[T]](n Noisy[T], joints [][2]int) (Noisy[T], api.Errno) {
	net, e := network.Join(n.net, joints)
	switch {
	case e != api.OK:
		return Noisy[T]{}, e
	case len(joints) == 0:
		return n, api.OK
	}
	// The wave that enters port l[x] is the one that leaves port o[x].
	var l, o []int
	for _, joint := range joints {
		l = append(l, joint[0]-1, joint[1]-1)
		o = append(o, joint[1]-1, joint[0]-1)
	}
	s, unit := scattering(n.net), num.Identity[T](len(l))
	t := square(len(l), func(x, y int) T { return unit[y][x].Sub(s[o[y]][l[x]]) })
	var p [][]T
	for _, i := range remaining(len(s), l) {
		v := make([]T, len(l))
		for x, k := range l {
			v[x] = s[i][k]
		}
		q, e := num.Solve(t, v)
		if e != api.OK {
			return Noisy[T]{}, api.ErrSingular
		}
		p = append(p, carrier(len(s), i, o, q))
	}
	return Noisy[T]{net, carried(n.c, p)}, api.OK
}

// Terminate returns n with a load of the reflection coefficient g and a temperature at a port.
func Terminate[T num.Field[T]](n Noisy[T], port int, g T, temp num.Num) (Noisy[T], api.Errno) {
	if !isTemperature(temp) {
		return Noisy[T]{}, api.ErrArg
	}
	net, err := network.Terminate(n.net, port, g)
	if err != api.OK {
		return Noisy[T]{}, err
	}
	z, _ := n.net.Ref(port)
	s, p, one := scattering(n.net), port-1, of[T](num.Int(1))
	// network.Terminate has found that e is Clear.
	e := one.Sub(s[p][p].Mul(g))
	f, _ := g.Div(e)
	h, _ := one.Div(e)
	r := of[T](temp.Mul(z)).Mul(one.Sub(g.Mul(g.Conj())))
	var a [][]T
	var u []T
	for _, i := range remaining(len(s), []int{p}) {
		a = append(a, carrier(len(s), i, []int{p}, []T{s[i][p].Mul(f)}))
		u = append(u, s[i][p].Mul(h))
	}
	x := carried(n.c, a)
	return Noisy[T]{net, square(len(u), func(i, k int) T { return x[i][k].Add(r.Mul(u[i].Mul(u[k].Conj()))) })}, api.OK
}

// Renormalize returns the same device with other reference impedances.
func Renormalize[T num.Field[T]](n Noisy[T], z []num.Num) (Noisy[T], api.Errno) {
	net, e := network.Renormalize(n.net, z)
	if e != api.OK {
		return Noisy[T]{}, e
	}
	half, _ := num.New(1, 0, 2)
	more, less := make([]T, len(z)), make([]T, len(z)) // (1 + r)/2 and (1 - r)/2
	for i, old := range refs(n.net) {
		r, _ := z[i].Div(old)
		more[i] = of[T](num.Int(1).Add(r).Mul(half))
		less[i] = of[T](num.Int(1).Sub(r).Mul(half))
	}
	s := scattering(net)
	a := square(len(z), func(i, k int) T {
		back := s[i][k].Mul(less[k])
		if i == k {
			return more[i].Sub(back)
		}
		return back.Neg()
	})
	return Noisy[T]{net, carried(n.c, a)}, api.OK
}
