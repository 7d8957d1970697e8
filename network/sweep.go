package network

import (
	"iter"
	"slices"

	"waveport/api"
	"waveport/num"
)

// Sweep is a network for each of some rising frequencies. The zero value has no points. A Sweep never changes.
type Sweep[T num.Field[T]] struct {
	f []num.Num
	l []Net[T] // as many as f
}

// NewSweep returns the sweep of the networks l at the frequencies f.
func NewSweep[T num.Field[T]](f []num.Num, l []Net[T]) (Sweep[T], api.Errno) {
	if len(f) != len(l) || len(f) > api.MaxPoints {
		return Sweep[T]{}, api.ErrSize
	}
	for i, n := range l {
		switch {
		case !positive(f[i]):
			return Sweep[T]{}, api.ErrArg
		case i > 0 && f[i].Cmp(f[i-1]) <= 0:
			return Sweep[T]{}, api.ErrOrder
		case n.Ports() != l[0].Ports():
			return Sweep[T]{}, api.ErrSize
		case !sameRefs(n, l[0]):
			return Sweep[T]{}, api.ErrImpedance
		}
	}
	return Sweep[T]{slices.Clone(f), slices.Clone(l)}, api.OK
}

// Points returns the number of frequencies.
func (s Sweep[T]) Points() int {
	return len(s.f)
}

// Point returns the frequency and the network of point i.
func (s Sweep[T]) Point(i int) (num.Num, Net[T], api.Errno) {
	if i < 0 || i >= len(s.f) {
		return num.Num{}, Net[T]{}, api.ErrArg
	}
	return s.f[i], s.l[i], api.OK
}

// All yields the frequencies and the networks, in their order.
func (s Sweep[T]) All() iter.Seq2[num.Num, Net[T]] {
	return func(yield func(num.Num, Net[T]) bool) {
		for i, f := range s.f {
			if !yield(f, s.l[i]) {
				return
			}
		}
	}
}

// Between returns the network at a frequency, interpolated linearly.
func Between[T num.Field[T]](s Sweep[T], f num.Num) (Net[T], api.Errno) {
	if !f.Real() {
		return Net[T]{}, api.ErrArg
	}
	i, there := slices.BinarySearchFunc(s.f, f, num.Num.Cmp)
	switch {
	case there:
		return s.l[i], api.OK
	case i == 0 || i == len(s.f):
		return Net[T]{}, api.ErrNone
	}
	x, y := s.f[i-1], s.f[i]
	t, _ := f.Sub(x).Div(y.Sub(x))
	p, q := s.l[i-1], s.l[i]
	share := of[T](t)
	m := square(p.Ports(), func(i, j int) T { return p.s[i][j].Add(share.Mul(q.s[i][j].Sub(p.s[i][j]))) })
	return Net[T]{p.z, m}, api.OK
}

// Resample returns the sweep at other frequencies.
func Resample[T num.Field[T]](s Sweep[T], f []num.Num) (Sweep[T], api.Errno) {
	if len(f) > api.MaxPoints {
		return Sweep[T]{}, api.ErrSize
	}
	l := make([]Net[T], len(f))
	for i, x := range f {
		n, e := Between(s, x)
		if e != api.OK {
			return Sweep[T]{}, e
		}
		if i > 0 && x.Cmp(f[i-1]) <= 0 {
			return Sweep[T]{}, api.ErrOrder
		}
		l[i] = n
	}
	return Sweep[T]{slices.Clone(f), l}, api.OK
}
