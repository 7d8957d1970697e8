package calibrate_test

import (
	"strings"
	"testing"

	"waveport/api"
	"waveport/calibrate"
	"waveport/num"
)

// ordinary returns a standard of a kind.
func ordinary(kind int) calibrate.Standard {
	s := calibrate.Standard{Name: "a-B_1.x", Kind: kind, Connector: "N", Loss: num.Int(1), Most: 5}
	if kind == calibrate.Known {
		s.Points = []calibrate.Point{{Frequency: num.Int(1), Reflection: num.Int(2)}, {Frequency: num.Int(3), Reflection: num.Int(1)}}
	}
	return s
}

// points returns so many points of ascending frequency.
func points(n int) []calibrate.Point {
	l := make([]calibrate.Point, n)
	for i := range l {
		l[i] = calibrate.Point{Frequency: num.Int(int64(i)), Reflection: num.Int(int64(i * i))}
	}
	return l
}

// reflects tests the reflection of a standard.
func reflects(t *testing.T, what string, s calibrate.Standard, f, want string) {
	t.Helper()
	x, e := calibrate.Reflection(s, parse(t, f))
	is(t, what+" at "+f, x, e, want)
}

func TestReflection(t *testing.T) {
	s := ordinary(calibrate.Short)
	reflects(t, "an ideal short", s, "7", "-1")
	s.Fringe = parse(t, "1/2")
	reflects(t, "a short", s, "1", "-3/5+4/5i")
	reflects(t, "a short", s, "0", "-1")
	reflects(t, "a short", s, "-2", "-1i")
	s = ordinary(calibrate.Open)
	reflects(t, "an ideal open", s, "7", "1")
	s.Fringe = parse(t, "1/2")
	reflects(t, "an open", s, "2", "-1i")
	reflects(t, "an open", s, "1", "3/5-4/5i")
	s = ordinary(calibrate.Open)
	s.Delay, s.Sections, s.Loss = num.Int(1), 1, parse(t, "1/2")
	reflects(t, "an open behind a section", s, "1", "-1/2")
	s.Sections = 16
	reflects(t, "an open behind 16 sections", s, "1", "1/2")
	s.Delay, s.Sections = parse(t, "-1"), 1
	reflects(t, "an open ahead of its plane", s, "1/2", "-7/50+12/25i")
	s = ordinary(calibrate.Load)
	reflects(t, "a load without a resistance", s, "1", "-1")
	s.Resistance = num.Int(1)
	reflects(t, "a matched load", s, "1", "0")
	s.Resistance = num.Int(2)
	reflects(t, "a load", s, "1", "1/3")
	s.Fringe = num.Int(1)
	reflects(t, "a load with an inductance", s, "1", "2/5+1/5i")
	s = ordinary(calibrate.Known)
	s.Loss = parse(t, "1/2")
	reflects(t, "a known one", s, "1", "1")
	reflects(t, "a known one", s, "3", "1/2")
	reflects(t, "a known one", s, "3/2", "7/8")
	s.Sections, s.Delay = 1, num.Int(1)
	reflects(t, "a known one behind a section", s, "1", "-1")
}

func TestReflectionErrors(t *testing.T) {
	s := ordinary(calibrate.Known)
	for _, c := range []struct {
		f    string
		want api.Errno
	}{{"999/1000", api.ErrBand}, {"3001/1000", api.ErrBand}, {"-1", api.ErrBand}, {"2+1i", api.ErrArg}, {"9i", api.ErrArg}} {
		x, e := calibrate.Reflection(s, parse(t, c.f))
		fails(t, "Reflection at "+c.f, x, e, c.want)
	}
	s.Points = s.Points[:1]
	reflects(t, "one point", s, "1", "2")
	x, e := calibrate.Reflection(s, num.Int(2))
	fails(t, "beyond one point", x, e, api.ErrBand)
	x, e = calibrate.Reflection(ordinary(calibrate.Short), parse(t, "1i"))
	fails(t, "a short at i", x, e, api.ErrArg)
	s.Points = append(points(3), points(1)...)
	x, e = calibrate.Reflection(s, parse(t, "1i"))
	fails(t, "points out of order, at i", x, e, api.ErrOrder)
}

// modelled returns the reflection of a standard by the words of the chapter.
func modelled(s calibrate.Standard, f num.Num) num.Num {
	i, _ := num.New(0, 1, 1)
	one := num.Int(1)
	u := i.Mul(f).Mul(s.Fringe)
	var b num.Num
	switch s.Kind {
	case calibrate.Short:
		b = quotient(u.Sub(one), u.Add(one))
	case calibrate.Open:
		b = quotient(one.Sub(u), one.Add(u))
	case calibrate.Load:
		z := s.Resistance.Add(u)
		b = quotient(z.Sub(one), z.Add(one))
	case calibrate.Known:
		for k, p := range s.Points {
			if p.Frequency.Same(f) {
				b = p.Reflection
			}
			if k > 0 && s.Points[k-1].Frequency.Cmp(f) < 0 && f.Cmp(p.Frequency) < 0 {
				q := p
				p = s.Points[k-1]
				b = p.Reflection.Add(quotient(q.Reflection.Sub(p.Reflection).Mul(f.Sub(p.Frequency)), q.Frequency.Sub(p.Frequency)))
			}
		}
	}
	x := i.Mul(f).Mul(s.Delay)
	a := quotient(one.Sub(x), one.Add(x))
	for range s.Sections {
		b = b.Mul(a).Mul(a)
	}
	return s.Loss.Mul(b)
}

// standard returns any standard without an error.
func (d *dice) standard(name string) calibrate.Standard {
	s := calibrate.Standard{Name: name, Kind: d.below(4), Connector: "c" + name, Sections: d.below(4), Most: d.below(9) + 1}
	s.Loss = quotient(num.Int(int64(d.below(9)+1)), num.Int(9))
	s.Uses = d.below(s.Most + 1)
	if s.Sections > 0 {
		s.Delay = d.real()
	}
	if s.Kind == calibrate.Load {
		s.Resistance = quotient(num.Int(int64(d.below(9))), num.Int(4))
	}
	if s.Kind != calibrate.Known {
		s.Fringe = d.real()
		return s
	}
	f := d.real()
	for range d.below(5) + 1 {
		s.Points = append(s.Points, calibrate.Point{Frequency: f, Reflection: d.small()})
		f = f.Add(quotient(num.Int(int64(d.below(5)+1)), num.Int(3)))
	}
	return s
}

// frequency returns a frequency at which a standard has a reflection.
func (d *dice) frequency(s calibrate.Standard) num.Num {
	if s.Kind != calibrate.Known {
		return d.real()
	}
	first, last := s.Points[0].Frequency, s.Points[len(s.Points)-1].Frequency
	if d.below(3) == 0 {
		return s.Points[d.below(len(s.Points))].Frequency
	}
	return first.Add(last.Sub(first).Mul(quotient(num.Int(int64(d.below(14))), num.Int(13))))
}

func TestReflectionModel(t *testing.T) {
	d := dice(1)
	for range 600 {
		s := d.standard("s")
		f := d.frequency(s)
		x, e := calibrate.Reflection(s, f)
		is(t, "Reflection", x, e, modelled(s, f).Text())
		// P6.8
		if s.Kind != calibrate.Known && x.Norm().Cmp(num.Int(1)) > 0 {
			t.Errorf("%v at %s reflects %s", s, f.Text(), x.Text())
		}
	}
}

// broken are changes of the ordinary standard of a kind, with their errors.
var broken = []struct {
	what   string
	kind   int
	change func(s *calibrate.Standard)
	want   api.Errno
}{
	{"nothing", calibrate.Load, func(s *calibrate.Standard) {}, api.OK},
	{"no name", calibrate.Short, func(s *calibrate.Standard) { s.Name = "" }, api.ErrArg},
	{"a long name", calibrate.Short, func(s *calibrate.Standard) { s.Name = strings.Repeat("n", 25) }, api.ErrArg},
	{"the longest name", calibrate.Short, func(s *calibrate.Standard) { s.Name = strings.Repeat("n", 24) }, api.OK},
	{"all letters", calibrate.Short, func(s *calibrate.Standard) { s.Name = "azAZ09-_." }, api.OK},
	{"a space", calibrate.Short, func(s *calibrate.Standard) { s.Name = "a b" }, api.ErrArg},
	{"a slash", calibrate.Short, func(s *calibrate.Standard) { s.Name = "a/b" }, api.ErrArg},
	{"a letter beyond ASCII", calibrate.Short, func(s *calibrate.Standard) { s.Name = "ä" }, api.ErrArg},
	{"a byte beyond UTF-8", calibrate.Short, func(s *calibrate.Standard) { s.Name = "a\xffb" }, api.ErrArg},
	{"a line feed", calibrate.Short, func(s *calibrate.Standard) { s.Name = "a\n" }, api.ErrArg},
	{"a kind below", calibrate.Short, func(s *calibrate.Standard) { s.Kind = -1 }, api.ErrArg},
	{"a kind above", calibrate.Short, func(s *calibrate.Standard) { s.Kind = 4 }, api.ErrArg},
	{"no connector", calibrate.Short, func(s *calibrate.Standard) { s.Connector = "" }, api.ErrArg},
	{"another connector", calibrate.Short, func(s *calibrate.Standard) { s.Connector = "N " }, api.ErrArg},
	{"a long connector", calibrate.Short, func(s *calibrate.Standard) { s.Connector = strings.Repeat(".", 25) }, api.ErrArg},
	{"a complex resistance", calibrate.Load, func(s *calibrate.Standard) { s.Resistance, _ = num.New(1, 1, 1) }, api.ErrArg},
	{"a resistance below 0", calibrate.Load, func(s *calibrate.Standard) { s.Resistance, _ = num.New(-1, 0, 9) }, api.ErrArg},
	{"a resistance of a short", calibrate.Short, func(s *calibrate.Standard) { s.Resistance = num.Int(1) }, api.ErrArg},
	{"a resistance of an open", calibrate.Open, func(s *calibrate.Standard) { s.Resistance = num.Int(1) }, api.ErrArg},
	{"a resistance of a known one", calibrate.Known, func(s *calibrate.Standard) { s.Resistance = num.Int(1) }, api.ErrArg},
	{"a complex fringe", calibrate.Open, func(s *calibrate.Standard) { s.Fringe, _ = num.New(0, 1, 1) }, api.ErrArg},
	{"a fringe below 0", calibrate.Open, func(s *calibrate.Standard) { s.Fringe = num.Int(-1) }, api.OK},
	{"a fringe of a known one", calibrate.Known, func(s *calibrate.Standard) { s.Fringe = num.Int(1) }, api.ErrArg},
	{"a complex delay", calibrate.Open, func(s *calibrate.Standard) {
		s.Sections = 1
		s.Delay, _ = num.New(0, 1, 1)
	}, api.ErrArg},
	{"no delay of a section", calibrate.Open, func(s *calibrate.Standard) { s.Sections = 1 }, api.OK},
	{"a delay without sections", calibrate.Open, func(s *calibrate.Standard) { s.Delay = num.Int(1) }, api.ErrArg},
	{"sections below 0", calibrate.Open, func(s *calibrate.Standard) { s.Sections = -1 }, api.ErrArg},
	{"all sections", calibrate.Open, func(s *calibrate.Standard) { s.Sections = 16 }, api.OK},
	{"too many sections", calibrate.Open, func(s *calibrate.Standard) { s.Sections = 17 }, api.ErrArg},
	{"a complex loss", calibrate.Open, func(s *calibrate.Standard) { s.Loss, _ = num.New(1, 1, 2) }, api.ErrArg},
	{"all lost", calibrate.Open, func(s *calibrate.Standard) { s.Loss = num.Int(0) }, api.ErrArg},
	{"a loss below 0", calibrate.Open, func(s *calibrate.Standard) { s.Loss = num.Int(-1) }, api.ErrArg},
	{"a gain", calibrate.Known, func(s *calibrate.Standard) { s.Loss, _ = num.New(10, 0, 9) }, api.ErrArg},
	{"no connection", calibrate.Open, func(s *calibrate.Standard) { s.Most = 0 }, api.ErrArg},
	{"all connections", calibrate.Open, func(s *calibrate.Standard) { s.Most, s.Uses = 65535, 65535 }, api.OK},
	{"too many connections", calibrate.Open, func(s *calibrate.Standard) { s.Most = 65536 }, api.ErrArg},
	{"uses below 0", calibrate.Open, func(s *calibrate.Standard) { s.Uses = -1 }, api.ErrArg},
	{"too many uses", calibrate.Open, func(s *calibrate.Standard) { s.Uses = 6 }, api.ErrArg},
	{"points of a load", calibrate.Load, func(s *calibrate.Standard) { s.Points = points(1) }, api.ErrArg},
	{"too many points of a load", calibrate.Load, func(s *calibrate.Standard) { s.Points = points(1025) }, api.ErrArg},
	{"no points", calibrate.Known, func(s *calibrate.Standard) { s.Points = nil }, api.ErrArg},
	{"empty points", calibrate.Open, func(s *calibrate.Standard) { s.Points = []calibrate.Point{} }, api.OK},
	{"all points", calibrate.Known, func(s *calibrate.Standard) { s.Points = points(1024) }, api.OK},
	{"too many points", calibrate.Known, func(s *calibrate.Standard) { s.Points = points(1025) }, api.ErrSize},
	{"too many points, out of order", calibrate.Known, func(s *calibrate.Standard) { s.Points = append(points(1025), points(1)...) }, api.ErrSize},
	{"too many points and uses", calibrate.Known, func(s *calibrate.Standard) { s.Points, s.Uses = points(1025), 6 }, api.ErrArg},
	{"a complex frequency", calibrate.Known, func(s *calibrate.Standard) { s.Points[0].Frequency, _ = num.New(1, 1, 1) }, api.ErrArg},
	{"equal frequencies", calibrate.Known, func(s *calibrate.Standard) { s.Points[1].Frequency = num.Int(1) }, api.ErrOrder},
	{"falling frequencies", calibrate.Known, func(s *calibrate.Standard) { s.Points[1].Frequency = num.Int(0) }, api.ErrOrder},
	{"frequencies below 0", calibrate.Known, func(s *calibrate.Standard) { s.Points[0].Frequency = num.Int(-1) }, api.OK},
	{"falling frequencies, then a complex one", calibrate.Known, func(s *calibrate.Standard) {
		s.Points = append(append(points(2), points(1)...), points(1)...)
		s.Points[3].Frequency, _ = num.New(9, 1, 1)
	}, api.ErrOrder},
	{"a complex frequency, then falling ones", calibrate.Known, func(s *calibrate.Standard) {
		s.Points = append(points(2), points(1)...)
		s.Points[1].Frequency, _ = num.New(9, 1, 1)
	}, api.ErrArg},
	{"a complex frequency out of order", calibrate.Known, func(s *calibrate.Standard) { s.Points[1].Frequency, _ = num.New(0, 1, 1) }, api.ErrArg},
}

func TestStandardErrors(t *testing.T) {
	for _, c := range broken {
		s := ordinary(c.kind)
		c.change(&s)
		x, e := calibrate.Reflection(s, num.Int(2))
		code(t, "Reflection: "+c.what, !x.Clear(), e, c.want)
		l, e := calibrate.Verify(s, nil, nil, num.Int(0))
		code(t, "Verify: "+c.what, len(l) == 0, e, c.want)
		k := calibrate.Kit{Name: "k", Version: 1, Standards: []calibrate.Standard{ordinary(calibrate.Short), s}}
		k.Standards[0].Name = "other"
		text, e := calibrate.PrintKit(k)
		code(t, "PrintKit: "+c.what, text == "", e, c.want)
		k, e = calibrate.Connect(k, nil)
		code(t, "Connect: "+c.what, noKit(k), e, c.want)
	}
}

func TestVerify(t *testing.T) {
	s := ordinary(calibrate.Short)
	l, e := calibrate.Verify(s, list(t, "1 2 3 4"), list(t, "-9/10 -4/5 -1+1/10i -1+101/1000i"), parse(t, "1/10"))
	if e != api.OK || len(l) != 4 {
		t.Fatalf("Verify: %v, %d", l, e)
	}
	for i, want := range []struct {
		f, off string
		within bool
	}{{"1", "1/10", true}, {"2", "1/5", false}, {"3", "1/10i", true}, {"4", "101/1000i", false}} {
		if c := l[i]; c.Frequency.Text() != want.f || c.Error.Text() != want.off || c.Within != want.within {
			t.Errorf("Verify: %s %s %v, want %v", c.Frequency.Text(), c.Error.Text(), c.Within, want)
		}
	}
	l, e = calibrate.Verify(s, list(t, "1 1"), list(t, "-1 -999/1000"), num.Int(0))
	if e != api.OK || len(l) != 2 || !l[0].Within || l[1].Within {
		t.Errorf("Verify with the limit 0: %v, %d", l, e)
	}
	l, e = calibrate.Verify(s, nil, []num.Num{}, num.Int(0))
	if e != api.OK || len(l) != 0 {
		t.Errorf("Verify of nothing: %v, %d", l, e)
	}
	d := dice(2)
	for range 100 {
		s := d.standard("s")
		f := []num.Num{d.frequency(s), d.frequency(s)}
		limit := d.real()
		limit = limit.Mul(limit)
		corrected := []num.Num{modelled(s, f[0]).Add(quotient(d.small(), num.Int(5))), d.small()}
		l, e := calibrate.Verify(s, f, corrected, limit)
		if e != api.OK || len(l) != 2 {
			t.Fatalf("Verify: %v, %d", l, e)
		}
		for i, c := range l {
			off := corrected[i].Sub(modelled(s, f[i]))
			if !c.Frequency.Same(f[i]) || !c.Error.Same(off) || c.Within != (off.Norm().Cmp(limit.Mul(limit)) <= 0) {
				t.Errorf("Verify of %s: %v", off.Text(), c)
			}
		}
	}
}

func TestVerifyErrors(t *testing.T) {
	long := make([]num.Num, 1025)
	for i := range long {
		long[i] = num.Int(2)
	}
	bad := ordinary(calibrate.Known)
	bad.Most = 0
	for i, c := range []struct {
		s            calibrate.Standard
		f, corrected []num.Num
		limit        string
		want         api.Errno
	}{
		{ordinary(calibrate.Known), long[:1024], long[:1024], "0", api.OK},
		{ordinary(calibrate.Known), long, long, "-1", api.ErrSize},
		{bad, long, long, "-1", api.ErrArg},
		{ordinary(calibrate.Known), long[:2], long[:1], "-1", api.ErrSize},
		{ordinary(calibrate.Known), long[:2], long[:3], "0", api.ErrSize},
		{ordinary(calibrate.Known), list(t, "4"), long[:1], "-1/9", api.ErrArg},
		{ordinary(calibrate.Known), list(t, "2 4"), long[:2], "1i", api.ErrArg},
		{ordinary(calibrate.Known), list(t, "2 4"), long[:2], "1", api.ErrBand},
		{ordinary(calibrate.Known), list(t, "2 4 1i"), long[:3], "1", api.ErrBand},
		{ordinary(calibrate.Known), list(t, "2 1i 4"), long[:3], "1", api.ErrArg},
	} {
		l, e := calibrate.Verify(c.s, c.f, c.corrected, parse(t, c.limit))
		if e != c.want || (e != api.OK) != (len(l) == 0) {
			t.Errorf("case %d: %d checks, %d, want %d", i, len(l), e, c.want)
		}
	}
}
