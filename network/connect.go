package network

import (
	"slices"

	"waveport/api"
	"waveport/num"
)

// claims tells, by the index of a port, whether it has occurred among some arguments.
type claims [api.MaxPorts]bool

// claim notes that a port of n occurs.
func (n Net[T]) claim(c *claims, port int) api.Errno {
	switch {
	case !n.hasPort(port):
		return api.ErrArg
	case c[port-1]:
		return api.ErrTwice
	}
	c[port-1] = true
	return api.OK
}

// claimPairs returns the ports that occur in pairs, whose reference impedances have to fit.
func (n Net[T]) claimPairs(pairs [][2]int, fit func(x, y num.Num) bool) (claims, api.Errno) {
	var c claims
	for _, pair := range pairs {
		for _, port := range pair {
			if e := n.claim(&c, port); e != api.OK {
				return c, e
			}
		}
		if !fit(n.z[pair[0]-1], n.z[pair[1]-1]) {
			return c, api.ErrImpedance
		}
	}
	return c, api.OK
}

// Stack returns the network that consists of a and b without a connection.
func Stack[T num.Field[T]](a, b Net[T]) (Net[T], api.Errno) {
	k := a.Ports()
	n := k + b.Ports()
	if n > api.MaxPorts {
		return Net[T]{}, api.ErrSize
	}
	s := square(n, func(i, j int) T {
		switch {
		case i < k && j < k:
			return a.s[i][j]
		case i >= k && j >= k:
			return b.s[i-k][j-k]
		}
		return of[T](num.Num{})
	})
	return Net[T]{slices.Concat(a.z, b.z), s}, api.OK
}

// Renumber returns the network whose port i is port order[i-1] of n.
func Renumber[T num.Field[T]](n Net[T], order []int) (Net[T], api.Errno) {
	if len(order) != n.Ports() {
		return Net[T]{}, api.ErrSize
	}
	var c claims
	ports := make([]int, len(order))
	for i, port := range order {
		if e := n.claim(&c, port); e != api.OK {
			return Net[T]{}, e
		}
		ports[i] = port - 1
	}
	return n.only(ports, n.s), api.OK
}

// only returns the network with the ports of n that have these indices, and the elements of s between them.
func (n Net[T]) only(ports []int, s [][]T) Net[T] {
	z := make([]num.Num, len(ports))
	for i, p := range ports {
		z[i] = n.z[p]
	}
	return Net[T]{z, square(len(ports), func(i, j int) T { return s[ports[i]][ports[j]] })}
}

// unclaimed returns the indices of the ports of n that have not occurred.
func (n Net[T]) unclaimed(c claims) []int {
	var ports []int
	for p := range n.Ports() {
		if !c[p] {
			ports = append(ports, p)
		}
	}
	return ports
}

// Terminate returns n with a load of the reflection coefficient g at a port.
func Terminate[T num.Field[T]](n Net[T], port int, g T) (Net[T], api.Errno) {
	var c claims
	if e := n.claim(&c, port); e != api.OK {
		return Net[T]{}, e
	}
	if n.Ports() == 1 {
		return Net[T]{}, api.ErrSize
	}
	p := port - 1
	f, e := g.Div(of[T](num.Int(1)).Sub(n.s[p][p].Mul(g)))
	if e != api.OK {
		return Net[T]{}, api.ErrSingular
	}
	left := n.unclaimed(c)
	s := copied(n.s)
	for _, i := range left {
		for _, j := range left {
			s[i][j] = n.s[i][j].Add(n.s[i][p].Mul(f.Mul(n.s[p][j])))
		}
	}
	return n.only(left, s), api.OK
}

// Join returns n with pairs of its ports connected, all at once.
func Join[T num.Field[T]](n Net[T], joints [][2]int) (Net[T], api.Errno) {
	taken, e := n.claimPairs(joints, num.Num.Same)
	if e != api.OK {
		return Net[T]{}, e
	}
	if len(joints) == 0 {
		return n, api.OK
	}
	left := n.unclaimed(taken)
	if len(left) == 0 {
		return Net[T]{}, api.ErrSize
	}
	// The wave that enters port c[x] is the one that leaves port o[x].
	var c, o []int
	for _, joint := range joints {
		c = append(c, joint[0]-1, joint[1]-1)
		o = append(o, joint[1]-1, joint[0]-1)
	}
	m := square(len(c), func(x, y int) T { return unit[T](x, y).Sub(n.s[o[x]][c[y]]) })
	s := copied(n.s)
	for _, j := range left {
		w := make([]T, len(c))
		for x := range w {
			w[x] = n.s[o[x]][j]
		}
		v, e := num.Solve(m, w)
		if e != api.OK {
			return Net[T]{}, api.ErrSingular
		}
		for _, i := range left {
			for x, k := range c {
				s[i][j] = s[i][j].Add(n.s[i][k].Mul(v[x]))
			}
		}
	}
	return n.only(left, s), api.OK
}
