package transform_test

import (
	"strconv"
	"testing"

	"waveport/api"
	"waveport/box"
	"waveport/num"
	"waveport/transform"
)

func TestExact(t *testing.T) {
	for n, want := range map[int]string{1: "1", 2: "1 -1", 4: "1 -1i -1 1i"} {
		w, e := transform.Exact(n)
		is(t, "Exact of "+strconv.Itoa(n), w, e, want)
	}
	for _, n := range []int{8, 16, 32, 64} {
		w, e := transform.Exact(n)
		fails(t, "Exact of "+strconv.Itoa(n), w, e, api.ErrNone)
	}
	for _, n := range noLengths {
		w, e := transform.Exact(n)
		fails(t, "Exact of "+strconv.Itoa(n), w, e, api.ErrSize)
	}
}

func TestRoots(t *testing.T) {
	for _, n := range lengths {
		w, e := transform.Roots(n)
		if len(w) != n || e != api.OK {
			t.Errorf("Roots of %d: %d, %d", n, len(w), e)
			continue
		}
		for k := range w {
			turn, _ := box.Turn(fraction(-k, n), fraction(-k, n))
			if !w[k].Same(turn) {
				t.Errorf("Roots of %d, %d: %v, %v", n, k, w[k].Lo(), w[k].Hi())
			}
		}
	}
	for _, n := range exact {
		like(t, "Roots of "+strconv.Itoa(n), roots(t, n), api.OK, narrow(factors(t, n)))
	}
	for _, n := range noLengths {
		w, e := transform.Roots(n)
		fails(t, "Roots of "+strconv.Itoa(n), w, e, api.ErrSize)
	}
}

// function is one of the four transforms.
type function[T any] struct {
	name string
	f    func(x, w []T) ([]T, api.Errno)
}

func functions[T num.Field[T]]() []function[T] {
	return []function[T]{{"Forward", transform.Forward[T]}, {"Fast", transform.Fast[T]}, {"Back", transform.Back[T]}, {"FastBack", transform.FastBack[T]}}
}

func TestExamples(t *testing.T) {
	for i, c := range functions[num.Num]() {
		x, want := "1 2 3 4", "10 -2+2i -2 -2-2i"
		if i > 1 {
			x, want = want, x
		}
		l, e := c.f(list(t, x), factors(t, 4))
		is(t, c.name, l, e, want)
		l, e = c.f(list(t, "3-2i"), factors(t, 1))
		is(t, c.name+" of one", l, e, "3-2i")
		// One element has no factor in the stages.
		l, e = c.f(list(t, "3"), list(t, "1i"))
		is(t, c.name+" of one with another factor", l, e, []string{"3i", "3", "-3i", "3"}[i])
	}
}

func TestTransformErrors(t *testing.T) {
	for _, c := range functions[num.Num]() {
		for _, n := range []int{0, 3, 5, 12, 63, 65, 128} {
			l, e := c.f(make([]num.Num, n), make([]num.Num, n))
			fails(t, c.name+" of "+strconv.Itoa(n), l, e, api.ErrSize)
		}
		for _, n := range lengths {
			for _, m := range []int{0, 1, 2, 3, 4, 8, 32, 64, 65} {
				what := c.name + " of " + strconv.Itoa(m) + " with " + strconv.Itoa(n) + " factors"
				l, e := c.f(make([]num.Num, m), make([]num.Num, n))
				if m == n {
					like(t, what, l, e, make([]num.Num, n))
				} else {
					fails(t, what, l, e, api.ErrSize)
				}
			}
		}
	}
}

// definition returns the element k of the transform of x by its definition.
func definition(x, w []num.Num, k int) num.Num {
	var s num.Num
	at := 0
	for _, a := range x {
		s = s.Add(a.Mul(w[at]))
		if at += k; at >= len(w) {
			at -= len(w)
		}
	}
	return s
}

// stages returns the element k of the transform of x in stages: each x[j] takes the factor of each stage in which it is among the odd ones, and its sign.
func stages(x, w []num.Num, k int) num.Num {
	var s num.Num
	for j, a := range x {
		for size, stride := len(x), 1; size > 1; size, stride = size/2, stride*2 {
			if j/stride%2 == 0 {
				continue
			}
			at := k % size
			if at >= size/2 {
				at -= size / 2
				a = a.Neg()
			}
			a = a.Mul(w[at*stride])
		}
		s = s.Add(a)
	}
	return s
}

// TestAnyFactors has factors for which the results are no transforms.
func TestAnyFactors(t *testing.T) {
	d := dice(1)
	for _, n := range lengths {
		x, w := d.list(n), d.list(n)
		for k := range w {
			w[k] = w[k].Floor(0) // keeps the denominators small
		}
		conj := zip(w, w, func(a, _ num.Num) num.Num { return a.Conj() })
		for i, c := range functions[num.Num]() {
			element := []func(x, w []num.Num, k int) num.Num{definition, stages}[i%2]
			factors, share := w, num.Int(1)
			if i > 1 {
				factors, share = conj, fraction(1, n)
			}
			want := make([]num.Num, n)
			for k := range want {
				want[k] = element(x, factors, k).Mul(share)
			}
			l, e := c.f(x, w)
			like(t, c.name+" of "+strconv.Itoa(n), l, e, want)
		}
	}
}

// TestThereAndBack is P7.2.
func TestThereAndBack(t *testing.T) {
	d := dice(2)
	for range 40 {
		for _, n := range exact {
			x, w := d.list(n), factors(t, n)
			y, e := transform.Forward(x, w)
			z, f := transform.Fast(x, w)
			like(t, "Fast is Forward", z, f, y)
			back, g := transform.Back(y, w)
			like(t, "Back of Forward", back, g, x)
			back, g = transform.FastBack(z, w)
			like(t, "FastBack of Fast", back, g, x)
			back, e = transform.Back(x, w)
			z, f = transform.FastBack(x, w)
			like(t, "FastBack is Back", z, f, back)
			y, e = transform.Forward(back, w)
			like(t, "Forward of Back", y, e, x)
			y, e = transform.Fast(z, w)
			like(t, "Fast of FastBack", y, e, x)
		}
	}
}

// TestLaws is P7.4.
func TestLaws(t *testing.T) {
	d := dice(3)
	for range 40 {
		for _, n := range exact {
			w := factors(t, n)
			forward := func(x []num.Num) []num.Num {
				y, e := transform.Forward(x, w)
				if e != api.OK {
					t.Fatalf("Forward: %d", e)
				}
				return y
			}
			x, y, a := d.list(n), d.list(n), d.small()
			like(t, "Forward of a sum", forward(sum(x, scaled(y, a))), api.OK, sum(forward(x), scaled(forward(y), a)))
			before, e := transform.Energy(x)
			after, f := transform.Energy(forward(x))
			if !after.Same(before.Mul(num.Int(int64(n)))) || e != api.OK || f != api.OK {
				t.Errorf("Energy: %s and %s, %d, %d", before.Text(), after.Text(), e, f)
			}
			p, e := transform.Convolve(x, y)
			q, f := transform.Convolve(y, x)
			like(t, "Convolve", p, e, q)
			q, f = transform.Times(forward(x), forward(y))
			like(t, "Forward of Convolve", q, f, forward(p))
			by := d.below(40) - 20
			p, e = transform.Shift(x, by)
			if e != api.OK {
				t.Errorf("Shift by %d: %d", by, e)
			}
			q = forward(x)
			for k := range q {
				q[k] = q[k].Mul(w[((k*by)%n+n)%n])
			}
			like(t, "Forward of Shift", forward(p), api.OK, q)
		}
	}
}
