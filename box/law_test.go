package box_test

import (
	"testing"

	"waveport/api"
	"waveport/box"
	"waveport/num"
)

// TestInclusion is P2.2.
func TestInclusion(t *testing.T) {
	d := dice(10)
	for range 4000 {
		b, c := d.box(t), d.box(t)
		x, y := d.elementOf(b), d.elementOf(c)
		check := func(what string, r box.Box, z num.Num) {
			if !r.Has(z) {
				t.Errorf("%s of %v, %v: %v does not have %s", what, b, c, r, z.Text())
			}
		}
		check("an element", b, x)
		check("Add", b.Add(c), x.Add(y))
		check("Sub", b.Sub(c), x.Sub(y))
		check("Mul", b.Mul(c), x.Mul(y))
		check("Neg", b.Neg(), x.Neg())
		check("Conj", b.Conj(), x.Conj())
		check("Norm", box.Pair(b.Norm(), box.Span{}), x.Norm())
		if q, e := b.Div(c); e == api.OK {
			z, _ := x.Div(y)
			check("Div", q, z)
			i, _ := c.Inv()
			z, _ = num.Int(1).Div(y)
			check("Inv", i, z)
		}
	}
}

// TestSpanInclusion is P2.2 for spans.
func TestSpanInclusion(t *testing.T) {
	d := dice(11)
	for range 4000 {
		s, u := d.span(t), d.span(t)
		x, y := d.element(s), d.element(u)
		check := func(what string, r box.Span, z num.Num) {
			if !r.Has(z) {
				t.Errorf("%s of %v, %v: %v does not have %s", what, s, u, r, z.Text())
			}
		}
		check("Add", s.Add(u), x.Add(y))
		check("Sub", s.Sub(u), x.Sub(y))
		check("Mul", s.Mul(u), x.Mul(y))
		check("Square", s.Square(), x.Mul(x))
		if q, e := s.Div(u); e == api.OK {
			z, _ := x.Div(y)
			check("Div", q, z)
		}
		around, _ := box.Around(x, x)
		if lo, _ := around.Ends(); lo >= 0 {
			squared, _ := box.Around(x.Mul(x), x.Mul(x))
			root, _ := squared.Sqrt()
			check("Sqrt", root, x)
		}
	}
}

// TestMonotony is P2.3; that of Sqrt of boxes is in TestRootEncloses.
func TestMonotony(t *testing.T) {
	d := dice(12)
	for range 4000 {
		b2, c2 := d.box(t), d.box(t)
		b, c := d.boxWithin(t, b2), d.boxWithin(t, c2)
		check := func(what string, r, r2 box.Box) {
			if !r.In(r2) {
				t.Errorf("%s of %v, %v: %v is not in %v", what, b, c, r, r2)
			}
		}
		check("Add", b.Add(c), b2.Add(c2))
		check("Sub", b.Sub(c), b2.Sub(c2))
		check("Mul", b.Mul(c), b2.Mul(c2))
		check("Neg", b.Neg(), b2.Neg())
		check("Conj", b.Conj(), b2.Conj())
		check("Hull", b.Hull(c), b2.Hull(c2))
		check("Norm", box.Pair(b.Norm(), c.Norm()), box.Pair(b2.Norm(), c2.Norm()))
		if r2, e := b2.Div(c2); e == api.OK {
			r, e := b.Div(c)
			i, f := c.Inv()
			i2, _ := c2.Inv()
			if e != api.OK || f != api.OK {
				t.Errorf("Div and Inv of %v in %v: %d, %d", c, c2, e, f)
			}
			check("Div", r, r2)
			check("Inv", i, i2)
		}
	}
}

// TestSpanMonotony is P2.3 for spans.
func TestSpanMonotony(t *testing.T) {
	d := dice(13)
	for range 4000 {
		s2, u2 := d.span(t), d.span(t)
		s, u := d.within(t, s2), d.within(t, u2)
		check := func(what string, r, r2 box.Span) {
			if !r.In(r2) {
				t.Errorf("%s of %v, %v: %v is not in %v", what, s, u, r, r2)
			}
		}
		check("Add", s.Add(u), s2.Add(u2))
		check("Sub", s.Sub(u), s2.Sub(u2))
		check("Mul", s.Mul(u), s2.Mul(u2))
		check("Square", s.Square(), s2.Square())
		if r2, e := s2.Div(u2); e == api.OK {
			r, e := s.Div(u)
			if e != api.OK {
				t.Errorf("Div by %v in %v: %d", u, u2, e)
			}
			check("Div", r, r2)
		}
		if r2, e := s2.Sqrt(); e == api.OK {
			r, e := s.Sqrt()
			if e != api.OK {
				t.Errorf("Sqrt of %v in %v: %d", s, s2, e)
			}
			check("Sqrt", r, r2)
		}
		if s2.Below(u2) == box.Yes && s.Below(u) != box.Yes || s2.Below(u2) == box.No && s.Below(u) != box.No {
			t.Errorf("Below of %v, %v: another one than of %v, %v", s, u, s2, u2)
		}
	}
}

// TestLattice is P2.5.
func TestLattice(t *testing.T) {
	d := dice(14)
	for range 3000 {
		a, b, c := d.box(t), d.box(t), d.box(t)
		if !a.Hull(b).Same(b.Hull(a)) || !a.Hull(b).Hull(c).Same(a.Hull(b.Hull(c))) {
			t.Errorf("Hull of %v, %v, %v", a, b, c)
		}
		if !a.In(a.Hull(b)) || !b.In(a.Hull(b)) {
			t.Errorf("%v and %v are not in their Hull", a, b)
		}
		m, ok := a.Meet(b)
		n, fine := b.Meet(a)
		if ok != fine || !m.Same(n) || !ok && !m.Same(box.Box{}) {
			t.Errorf("Meet of %v and %v: %v, %v", a, b, m, n)
		}
		if !ok {
			continue
		}
		if !m.In(a) || !m.In(b) || !a.Hull(m).Same(a) {
			t.Errorf("%v, Meet of %v and %v", m, a, b)
		}
		left, ok := m.Meet(c)
		if o, exists := b.Meet(c); exists {
			right, fine := a.Meet(o)
			if ok != fine || !left.Same(right) {
				t.Errorf("Meet of %v, %v, %v", a, b, c)
			}
		} else if ok {
			t.Errorf("%v and %v do not meet within %v", b, c, a)
		}
	}
}

// TestSymmetry is P2.6.
func TestSymmetry(t *testing.T) {
	d := dice(15)
	for range 3000 {
		b, c := d.box(t), d.box(t)
		check := func(what string, r, q box.Box) {
			if !r.Same(q) {
				t.Errorf("%s of %v, %v: %v and %v", what, b, c, r, q)
			}
		}
		check("Add exchanged", b.Add(c), c.Add(b))
		check("Mul exchanged", b.Mul(c), c.Mul(b))
		check("Neg twice", b.Neg().Neg(), b)
		check("Conj twice", b.Conj().Conj(), b)
		check("Neg of Conj", b.Neg().Conj(), b.Conj().Neg())
		check("Neg of Add", b.Neg().Add(c.Neg()), b.Add(c).Neg())
		check("Neg of Sub", c.Sub(b), b.Sub(c).Neg())
		check("Neg of Mul", b.Neg().Mul(c), b.Mul(c).Neg())
		check("Neg of Hull", b.Neg().Hull(c.Neg()), b.Hull(c).Neg())
		check("Conj of Add", b.Conj().Add(c.Conj()), b.Add(c).Conj())
		check("Conj of Sub", b.Conj().Sub(c.Conj()), b.Sub(c).Conj())
		check("Conj of Mul", b.Conj().Mul(c.Conj()), b.Mul(c).Conj())
		check("Norm", box.Pair(b.Neg().Norm(), b.Conj().Norm()), box.Pair(b.Norm(), b.Norm()))
		i, e := b.Inv()
		conj, f := b.Conj().Inv()
		neg, g := b.Neg().Inv()
		if e != f || e != g {
			t.Errorf("Inv of %v: %d, %d, %d", b, e, f, g)
		}
		check("Conj of Inv", conj, i.Conj())
		check("Neg of Inv", neg, i.Neg())
	}
}
