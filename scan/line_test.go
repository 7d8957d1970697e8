package scan_test

import (
	"math"
	"slices"
	"strings"
	"testing"

	"waveport/api"
	"waveport/num"
	"waveport/scan"
)

// track returns the ticks with a text: each has a time and a place.
func track(t testing.TB, s string) []scan.Tick {
	t.Helper()
	var out []scan.Tick
	for _, entry := range strings.Split(s, ",") {
		l := list(t, entry)
		out = append(out, scan.Tick{Time: l[0], Place: l[1]})
	}
	return out
}

// samples returns the samples with a text: each has a time and a value.
func samples(t testing.TB, s string) []sample {
	t.Helper()
	var out []sample
	for _, x := range track(t, s) {
		out = append(out, sample{Time: x.Time, Value: x.Place})
	}
	return out
}

// even returns n ticks with the times and places 0, 1, 2, ..
func even(n int) []scan.Tick {
	l := make([]scan.Tick, n)
	for k := range l {
		l[k] = scan.Tick{Time: num.Int(int64(k)), Place: num.Int(int64(k))}
	}
	return l
}

// evenSamples returns n samples with the times and values 0, 1, 2, ..
func evenSamples(n int) []sample {
	var l []sample
	for _, x := range even(n) {
		l = append(l, sample{Time: x.Time, Value: x.Place})
	}
	return l
}

// stops is a track with a stop and a way back.
const stops = "0 0,10 5,12 5,14 1,18 9"

func TestWhere(t *testing.T) {
	l := track(t, stops)
	for _, c := range [][2]string{{"0", "0"}, {"4", "2"}, {"1/3", "1/6"}, {"10", "5"}, {"11", "5"}, {"12", "5"}, {"13", "3"}, {"14", "1"}, {"17", "7"}, {"18", "9"}} {
		x, e := scan.Where(l, parse(t, c[0]))
		is(t, "Where at "+c[0], x, e, c[1])
	}
	for _, c := range []string{"-1", "-1/1000000000", "18000000001/1000000000", "19"} {
		x, e := scan.Where(l, parse(t, c))
		fails(t, "Where at "+c, x, e, api.ErrNone)
	}
	x, e := scan.Where(track(t, "3 7"), num.Int(3))
	is(t, "Where of one tick", x, e, "7")
	x, e = scan.Where(track(t, "3 7"), num.Int(4))
	fails(t, "Where of one tick", x, e, api.ErrNone)
	x, e = scan.Where(track(t, "3 7"), num.Int(2))
	fails(t, "Where of one tick", x, e, api.ErrNone)
}

func TestWhen(t *testing.T) {
	l := track(t, stops)
	for _, c := range [][2]string{{"0", "0"}, {"3", "6"}, {"1", "2"}, {"5", "10"}, {"2/7", "4/7"}, {"7", "17"}, {"9", "18"}} {
		x, e := scan.When(l, parse(t, c[0]))
		is(t, "When at "+c[0], x, e, c[1])
	}
	for _, c := range []string{"-1", "-1/1000000000", "9000000001/1000000000", "10"} {
		x, e := scan.When(l, parse(t, c))
		fails(t, "When at "+c, x, e, api.ErrNone)
	}
	for _, c := range []struct{ l, place, want string }{
		{"3 7", "7", "3"},
		{"3 7,4 7", "7", "3"},
		{"3 7,4 8,5 7", "7", "3"},
		{"3 7,4 5,5 9,6 1", "6", "7/2"},
		{"3 7,4 8,5 5,6 5", "5", "5"},
		{"-3 7,-2 -7", "0", "-5/2"},
	} {
		x, e := scan.When(track(t, c.l), parse(t, c.place))
		is(t, "When of "+c.l, x, e, c.want)
	}
	x, e := scan.When(track(t, "3 7"), num.Int(6))
	fails(t, "When of one tick", x, e, api.ErrNone)
	x, e = scan.When(track(t, "3 7,4 7"), num.Int(8))
	fails(t, "When of a stop", x, e, api.ErrNone)
}

// wrongTicks are lists with errors; the numbers of ticks are examined first, and then each tick.
func wrongTicks(t testing.TB) map[api.Errno][][]scan.Tick {
	long := even(4097)
	long[0].Time = parse(t, "1i")
	late := even(4096)
	late[4095].Time = late[4094].Time
	return map[api.Errno][][]scan.Tick{
		api.ErrSize: {nil, {}, even(4097), long},
		api.ErrArg: {
			track(t, "1i 0"), track(t, "0 1i"), track(t, "0 0,1 1,2 1+1i"), track(t, "0 0,1+1i 1"),
			track(t, "0 1i,0 0"), track(t, "1 0,0 1i"), track(t, "1 0,0+1i 0"), track(t, "0 0,1 0,2 2i,2 0"),
		},
		api.ErrOrder: {track(t, "0 0,0 0"), track(t, "1 0,0 1"), track(t, "0 0,1 1,1 2,2 3"), track(t, "0 0,2 1,1 2"), track(t, "1 0,0 0,2 1i"), late},
	}
}

func TestWrongTicks(t *testing.T) {
	i := parse(t, "1i")
	for want, lists := range wrongTicks(t) {
		for _, l := range lists {
			for _, at := range []num.Num{num.Int(0), num.Int(-1), i} {
				x, e := scan.Where(l, at)
				fails(t, "Where", x, e, want)
				x, e = scan.When(l, at)
				fails(t, "When", x, e, want)
				v, missing, e := scan.Line(l, samples(t, "0 0"), at, at, 0)
				code(t, "Line", len(v) == 0 && len(missing) == 0, e, want)
				v, missing, e = scan.Line[num.Num](l, nil, num.Int(0), num.Int(1), 1)
				code(t, "Line without samples", len(v) == 0 && len(missing) == 0, e, want)
				// The same list as samples; values need not be real.
				var s []sample
				for _, x := range l {
					s = append(s, sample{Time: x.Time, Value: x.Place})
				}
				right := !slices.ContainsFunc(l, func(x scan.Tick) bool { return !x.Time.Real() })
				if v, missing, e = scan.Line(track(t, "0 0"), s, at, at, 0); right && want == api.ErrArg {
					continue
				}
				code(t, "Line", len(v) == 0 && len(missing) == 0, e, want)
			}
		}
	}
	l := even(4096)
	x, e := scan.Where(l, fraction(8189, 2))
	is(t, "Where of many ticks", x, e, "8189/2")
	x, e = scan.When(l, fraction(8189, 2))
	is(t, "When of many ticks", x, e, "8189/2")
	x, e = scan.Where(l, i)
	fails(t, "Where at 1i", x, e, api.ErrArg)
	x, e = scan.When(l, i.Add(num.Int(1)))
	fails(t, "When at 1+1i", x, e, api.ErrArg)
	v, missing, e := scan.Line(l, evenSamples(4096), num.Int(1), num.Int(4000), 2)
	if listText(v) != "1 4001" || len(missing) != 0 || e != api.OK {
		t.Errorf("Line: %s, %v, %d", listText(v), missing, e)
	}
}

func TestLine(t *testing.T) {
	ticks := "0 0,10 5"
	const l = "0 0,5 10,9 18+4i"
	for _, c := range []struct {
		ticks, samples, start, step string
		n                           int
		want                        string
		missing                     []int
	}{
		{ticks, "0 0,5 10,10 20", "0", "2", 3, "0 8 16", nil},
		{ticks, l, "0", "2", 3, "0 8 16+3i", nil},
		{ticks, l, "5", "-1", 3, "0 16+3i 12+1i", []int{0}},
		{ticks, l, "9/2", "1/4", 4, "18+4i 0 0 0", []int{1, 2, 3}},
		{ticks, l, "-1", "1", 3, "0 0 4", []int{0}},
		{ticks, "2 7", "0", "1", 3, "0 7 0", []int{0, 2}},
		{ticks, "2 0,4 1i", "0", "1", 4, "0 0 1i 0", []int{0, 3}},
		{ticks, "-5 1,20 1i", "0", "5", 2, "4/5+1/5i 2/5+3/5i", nil},
		{"0 0,10 5,12 0", "0 0,10 1,12 2", "1", "3", 2, "1/5 4/5", nil},
		{"0 3,10 5,12 0", "0 0,10 1,12 2", "2", "1", 2, "8/5 0", nil},
		{"0 3", "0 1i", "3", "1", 2, "1i 0", []int{1}},
		{"0 3", "1 1i", "3", "1", 1, "0", []int{0}},
		{"0 3,1 4", "-1 1i", "3", "1", 1, "0", []int{0}},
	} {
		v, missing, e := scan.Line(track(t, c.ticks), samples(t, c.samples), parse(t, c.start), parse(t, c.step), c.n)
		if listText(v) != c.want || !slices.Equal(missing, c.missing) || e != api.OK {
			t.Errorf("Line of %s from %s: %s, %v, %d, want %s, %v", c.samples, c.start, listText(v), missing, e, c.want, c.missing)
		}
	}
}

func TestLineErrors(t *testing.T) {
	ticks := track(t, "0 0,100 100")
	l := samples(t, "0 0,100 1i")
	for _, c := range []struct {
		samples     []sample
		start, step string
		n           int
		e           api.Errno
	}{
		{l, "0", "1", 1, api.OK},
		{l, "0", "1", 64, api.OK},
		{l, "0", "1", 65, api.ErrSize},
		{l, "0", "1", 0, api.ErrSize},
		{l, "0", "1", -1, api.ErrSize},
		{l, "0", "1", math.MaxInt, api.ErrSize},
		{l, "0", "1", math.MinInt, api.ErrSize},
		{l, "0", "0", 1, api.ErrArg},
		{l, "0", "0", 0, api.ErrArg},
		{l, "0", "1i", 1, api.ErrArg},
		{l, "0", "1+1i", 0, api.ErrArg},
		{l, "1i", "1", 1, api.ErrArg},
		{l, "1+1i", "1", 65, api.ErrArg},
		{nil, "0", "1", 1, api.ErrSize},
		{nil, "0", "0", 1, api.ErrSize},
		{evenSamples(4097), "0", "0", 1, api.ErrSize},
		{samples(t, "1i 0"), "0", "1", 0, api.ErrArg},
		{samples(t, "0 0,0 1"), "0", "0", 0, api.ErrOrder},
		{samples(t, "0 0,0 1"), "1i", "1", 1, api.ErrOrder},
	} {
		v, missing, e := scan.Line(ticks, c.samples, parse(t, c.start), parse(t, c.step), c.n)
		if c.e == api.OK {
			code(t, "Line", len(v) == c.n && len(missing) == 0, e, c.e)
			continue
		}
		code(t, "Line from "+c.start+" by "+c.step, len(v) == 0 && len(missing) == 0, e, c.e)
	}
}

// track returns a track of n ticks with small steps.
func (d *dice) track(n int) []scan.Tick {
	l := make([]scan.Tick, n)
	time := d.real()
	for k := range l {
		l[k] = scan.Tick{Time: time, Place: num.Int(int64(d.below(9) - 4))}
		time = time.Add(d.positive())
	}
	return l
}

// firstAt returns the least of all times at which a probe is at a place, looking at all pieces of its way.
func firstAt(l []scan.Tick, place num.Num) (num.Num, bool) {
	var times []num.Num
	for k, a := range l {
		if a.Place.Same(place) {
			times = append(times, a.Time)
		}
		if k+1 == len(l) {
			break
		}
		b := l[k+1]
		if way := b.Place.Sub(a.Place); way.Clear() {
			part := quotient(place.Sub(a.Place), way)
			if !less(part, num.Int(0)) && !less(num.Int(1), part) {
				times = append(times, a.Time.Add(b.Time.Sub(a.Time).Mul(part)))
			}
		}
	}
	if len(times) == 0 {
		return num.Num{}, false
	}
	return slices.MinFunc(times, num.Num.Cmp), true
}

// TestTracks is the first part of P8.3, and compares with a search among all pieces of the way.
func TestTracks(t *testing.T) {
	d := dice(3)
	for range 300 {
		l := d.track(1 + d.below(7))
		place := fraction(d.below(50)-25, 5)
		want, there := firstAt(l, place)
		time, e := scan.When(l, place)
		if !there {
			fails(t, "When", time, e, api.ErrNone)
			continue
		}
		is(t, "When", time, e, want.Text())
		back, e := scan.Where(l, time)
		is(t, "Where", back, e, place.Text())
	}
}

// TestEvenLines is the second part of P8.3.
func TestEvenLines(t *testing.T) {
	d := dice(4)
	for range 100 {
		speed, from := d.clear(), d.small()
		value := func(time num.Num) num.Num { return from.Add(speed.Mul(time)) }
		var l []sample
		for _, x := range d.track(1 + d.below(7)) {
			l = append(l, sample{Time: x.Time, Value: value(x.Time)})
		}
		first, by := d.real(), d.positive()
		ticks := []scan.Tick{{Time: num.Int(-9), Place: first}}
		for range 1 + d.below(4) {
			time := ticks[len(ticks)-1].Time.Add(d.positive())
			ticks = append(ticks, scan.Tick{Time: time, Place: first.Add(time.Add(num.Int(9)).Mul(by))})
		}
		n := 1 + d.below(20)
		start, step := first.Sub(num.Int(1)), d.positive()
		v, missing, e := scan.Line(ticks, l, start, step, n)
		if len(v) != n || e != api.OK {
			t.Fatalf("Line: %d of %d, %d", len(v), n, e)
		}
		for k, x := range v {
			place := start.Add(step.Mul(num.Int(int64(k))))
			time := quotient(place.Sub(first), by).Sub(num.Int(9))
			gone := less(time, ticks[0].Time) || less(ticks[len(ticks)-1].Time, time) || less(time, l[0].Time) || less(l[len(l)-1].Time, time)
			if gone != slices.Contains(missing, k) || gone && x.Clear() || !gone && !x.Same(value(time)) {
				t.Errorf("value %d: %s, missing %v, want %s", k, x.Text(), missing, value(time).Text())
			}
		}
		if !slices.IsSorted(missing) {
			t.Errorf("missing: %v", missing)
		}
	}
}

// TestUnevenLines compares each value with When and a search among all pairs of samples.
func TestUnevenLines(t *testing.T) {
	d := dice(5)
	for range 200 {
		ticks := d.track(1 + d.below(7))
		var l []sample
		for _, x := range d.track(1 + d.below(9)) {
			l = append(l, sample{Time: x.Time, Value: d.small()})
		}
		start, step := d.real(), d.positive()
		if d.below(2) == 0 {
			step = step.Neg()
		}
		v, missing, e := scan.Line(ticks, l, start, step, 10)
		if len(v) != 10 || e != api.OK {
			t.Fatalf("Line: %d, %d", len(v), e)
		}
		for k, x := range v {
			var want num.Num
			gone := true
			time, there := firstAt(ticks, start.Add(step.Mul(num.Int(int64(k)))))
			for i := range l {
				switch {
				case there && l[i].Time.Same(time):
					want, gone = l[i].Value, false
				case there && i > 0 && less(l[i-1].Time, time) && less(time, l[i].Time):
					a, b := l[i-1], l[i]
					// The mean of both values, each with the time to the other one as its weight.
					both := a.Value.Mul(b.Time.Sub(time)).Add(b.Value.Mul(time.Sub(a.Time)))
					want, gone = quotient(both, b.Time.Sub(a.Time)), false
				}
			}
			if !x.Same(want) || gone != slices.Contains(missing, k) {
				t.Errorf("value %d: %s, missing %v, want %s", k, x.Text(), missing, want.Text())
			}
		}
	}
}
