package budget_test

import (
	"math"
	"math/big"
	"slices"
	"testing"

	"waveport/api"
	"waveport/budget"
)

// noFloats are values that a chart cannot have.
func noFloats() []float32 {
	inf := float32(math.Inf(1))
	return []float32{inf, -inf, float32(math.NaN())}
}

func isChart(t testing.TB, what string, values []float32, centre, sigma float32) {
	t.Helper()
	c, e := budget.Found(values)
	if c.Centre != centre || c.Sigma != sigma || e != api.OK {
		t.Errorf("Found of %s: %v, %d, want %v and %v", what, c, e, centre, sigma)
	}
}

func TestFound(t *testing.T) {
	isChart(t, "1, 2, 4", []float32{1, 2, 4}, 2.3333333, 1.3297872)
	isChart(t, "4, 2, 1", []float32{4, 2, 1}, 2.3333333, 1.3297872)
	isChart(t, "two values", []float32{-1, 1}, 0, 1.7730496)
	isChart(t, "values that go and return", []float32{0, 1.128, 0, -1.128, 0}, 0, 1)
	const most, least = math.MaxFloat32, math.SmallestNonzeroFloat32
	isChart(t, "the greatest values", []float32{most, most}, most, 0)
	isChart(t, "values far apart", []float32{-most, most}, 0, float32(math.Inf(1)))
	isChart(t, "values far apart", []float32{-most, -most / 8}, -most/2-most/16, most*875/1128)
	isChart(t, "the least values", []float32{0, least}, 0, least)
	isChart(t, "the least values", []float32{least, least, least, 0}, least, 0)
	isChart(t, "a great and a small value", []float32{1 << 24, 1, 1, -1 << 24}, 0.5, float32(1<<25)/3/1.128)
	negative := float32(math.Copysign(0, -1))
	isChart(t, "zeros", []float32{negative, 0}, 0, 0)
	if c, _ := budget.Found([]float32{negative, negative}); math.Signbit(float64(c.Centre)) || math.Signbit(float64(c.Sigma)) {
		t.Errorf("Found of zeros: %v", c)
	}
}

func TestFoundErrors(t *testing.T) {
	long := make([]float32, 1001)
	for _, values := range [][]float32{nil, {}, {1}, {noFloats()[0]}, long, append(long[:1000:1000], noFloats()[2])} {
		c, e := budget.Found(values)
		code(t, "Found", c == budget.Chart{}, e, api.ErrSize)
	}
	for _, f := range noFloats() {
		for _, values := range [][]float32{{f, 1}, {1, f}, append(long[:999:999], f)} {
			c, e := budget.Found(values)
			code(t, "Found", c == budget.Chart{}, e, api.ErrArg)
		}
	}
	isChart(t, "a thousand values", long[:1000], 0, 0)
}

// float returns a value of any size or of a usual one.
func (d *dice) float() float32 {
	if d.below(2) == 0 {
		return float32(d.below(2001)-1000) / 64
	}
	for {
		f := math.Float32frombits(uint32(d.next()))
		if f-f == 0 {
			return f
		}
	}
}

// TestFoundAll compares with fractions of Go's library.
func TestFoundAll(t *testing.T) {
	d := dice(30)
	for range 300 {
		values := make([]float32, 2+d.below(9))
		for i := range values {
			values[i] = d.float()
		}
		sum, steps := newRat(), newRat()
		for i, f := range values {
			x := newRat().SetFloat64(float64(f))
			sum.Add(sum, x)
			if i > 0 {
				x.Sub(x, newRat().SetFloat64(float64(values[i-1])))
				steps.Add(steps, x.Abs(x))
			}
		}
		n := int64(len(values))
		centre, _ := sum.Mul(sum, big.NewRat(1, n)).Float32()
		sigma, _ := steps.Mul(steps, big.NewRat(1000, 1128*(n-1))).Float32()
		isChart(t, "some values", values, centre, sigma)
	}
}

// alarmsOf looks for violations as the chapter describes them, with fractions of Go's library.
func alarmsOf(c budget.Chart, values []float32) []budget.Alarm {
	exact := func(f float32) *big.Rat { return newRat().SetFloat64(float64(f)) }
	beyond := func(i, k, side int) bool {
		z := newRat().Sub(exact(values[i]), exact(c.Centre))
		z.Mul(z, big.NewRat(int64(side), 1))
		return z.Cmp(newRat().Mul(exact(c.Sigma), big.NewRat(int64(k), 1))) > 0
	}
	ahead := func(at, n, k, side int) int {
		count := 0
		for i := at - n; i < at; i++ {
			if i >= 0 && beyond(i, k, side) {
				count++
			}
		}
		return count
	}
	var l []budget.Alarm
	for at := range values {
		var violated [6]bool
		for _, side := range []int{1, -1} {
			violated[1] = violated[1] || beyond(at, 3, side)
			violated[2] = violated[2] || beyond(at, 2, side) && ahead(at, 2, 2, side) >= 1
			violated[3] = violated[3] || beyond(at, 1, side) && ahead(at, 4, 1, side) >= 3
			violated[4] = violated[4] || beyond(at, 0, side) && ahead(at, 7, 0, side) == 7
			steps := 0
			for i := at; i > 0 && i > at-5; i-- {
				if exact(values[i]).Cmp(exact(values[i-1])) == side {
					steps++
				}
			}
			violated[5] = violated[5] || steps == 5
		}
		for rule, v := range violated {
			if v {
				l = append(l, budget.Alarm{Rule: rule, At: at})
			}
		}
	}
	return l
}

func hasAlarms(t testing.TB, what string, c budget.Chart, values []float32, want []budget.Alarm) {
	t.Helper()
	l, e := budget.Alarms(c, values)
	if !slices.Equal(l, want) || e != api.OK {
		t.Errorf("%s, Alarms(%v, %v): %v, %d, want %v", what, c, values, l, e, want)
	}
}

func TestAlarms(t *testing.T) {
	type l = []budget.Alarm
	type f = []float32
	unit := budget.Chart{Centre: 10, Sigma: 1}
	for _, x := range []struct {
		c      budget.Chart
		values f
		want   l
	}{
		{unit, nil, nil}, {unit, f{10}, nil},
		{unit, f{13, 7}, nil}, {unit, f{13.000001, 6.9999995}, l{{Rule: 1, At: 0}, {Rule: 1, At: 1}}},
		{unit, f{12, 12}, nil}, {unit, f{12.5, 12.5}, l{{Rule: 2, At: 1}}}, {unit, f{12.5, 10, 12.5}, l{{Rule: 2, At: 2}}}, {unit, f{12.5, 10, 10, 12.5}, nil}, {unit, f{12.5, 7.5, 7.5}, l{{Rule: 2, At: 2}}}, {unit, f{12.5, 7.5}, nil}, {unit, f{12.5, 12.5, 10}, l{{Rule: 2, At: 1}}},
		{unit, f{11.5, 11.5, 11.5, 11.5}, l{{Rule: 3, At: 3}}}, {unit, f{8.5, 10, 8.5, 8.5, 8.5}, l{{Rule: 3, At: 4}}}, {unit, f{8.5, 10, 10, 8.5, 8.5}, nil}, {unit, f{8.5, 10, 8.5, 11.5, 8.5, 8.5}, nil}, {unit, f{11, 11, 11, 11, 11}, nil}, {unit, f{11.5, 11.5, 11.5, 10}, nil},
		{unit, f{9.5, 9.5, 9.5, 9.5, 9.5, 9.5, 9.5}, nil}, {unit, f{9.5, 9.5, 9.5, 9.5, 9.5, 9.5, 9.5, 9.5, 9.5}, l{{Rule: 4, At: 7}, {Rule: 4, At: 8}}}, {unit, f{10.5, 10.5, 10.5, 10.5, 10, 10.5, 10.5, 10.5, 10.5}, nil}, {unit, f{10.5, 10.5, 10.5, 9.5, 10.5, 10.5, 10.5, 10.5, 10.5}, nil},
		{unit, f{9.5, 9.75, 10, 10.25, 10.5}, nil}, {unit, f{9.5, 9.75, 10, 10.25, 10.5, 10.75}, l{{Rule: 5, At: 5}}}, {unit, f{9.5, 9.75, 10, 10, 10.5, 10.75}, nil}, {unit, f{10.75, 10.5, 10, 9.75, 9.5, 9.25, 9.25}, l{{Rule: 5, At: 5}}}, {unit, f{9.5, 9.75, 10, 10.25, 10.5, 10.25}, nil},
		{unit, f{14, 14}, l{{Rule: 1, At: 0}, {Rule: 1, At: 1}, {Rule: 2, At: 1}}},
		{unit, f{14, 14, 14, 14, 14, 14, 14, 14}[:5], l{{Rule: 1, At: 0}, {Rule: 1, At: 1}, {Rule: 2, At: 1}, {Rule: 1, At: 2}, {Rule: 2, At: 2}, {Rule: 1, At: 3}, {Rule: 2, At: 3}, {Rule: 3, At: 3}, {Rule: 1, At: 4}, {Rule: 2, At: 4}, {Rule: 3, At: 4}}},
		{unit, f{11.5, 11.6, 11.7, 11.8, 11.9, 12}, l{{Rule: 3, At: 3}, {Rule: 3, At: 4}, {Rule: 3, At: 5}, {Rule: 5, At: 5}}},
		{budget.Chart{}, f{0, 0, 0, 0, 0, 0, 0, 0, 0}, nil}, {budget.Chart{}, f{0, math.SmallestNonzeroFloat32, -math.SmallestNonzeroFloat32}, l{{Rule: 1, At: 1}, {Rule: 1, At: 2}}},
		{budget.Chart{Centre: 1, Sigma: float32(math.Copysign(0, -1))}, f{1, 2, 0}, l{{Rule: 1, At: 1}, {Rule: 1, At: 2}}},
		// Floats round 1e30 - 1 to 1e30, and 3 times 1e38 is near the greatest one.
		{budget.Chart{Centre: 1, Sigma: 1e30}, f{3e30}, nil}, {budget.Chart{Centre: -1, Sigma: 1 << 100}, f{3 << 100}, l{{Rule: 1, At: 0}}}, {budget.Chart{Sigma: 3e38}, f{math.MaxFloat32, -math.MaxFloat32}, nil}, {budget.Chart{Centre: -math.MaxFloat32, Sigma: 2e38}, f{math.MaxFloat32}, l{{Rule: 1, At: 0}}},
	} {
		hasAlarms(t, "fixed values", x.c, x.values, x.want)
		hasAlarms(t, "what is expected is right", x.c, x.values, alarmsOf(x.c, x.values))
	}
}

func TestAlarmErrors(t *testing.T) {
	fails := func(what string, c budget.Chart, values []float32, want api.Errno) {
		t.Helper()
		l, e := budget.Alarms(c, values)
		code(t, "Alarms, "+what, len(l) == 0, e, want)
	}
	long := make([]float32, 1001)
	for _, f := range noFloats() {
		for _, values := range [][]float32{nil, {1}, {f}, long} {
			fails("centre", budget.Chart{Centre: f, Sigma: 1}, values, api.ErrArg)
			fails("sigma", budget.Chart{Centre: 1, Sigma: f}, values, api.ErrArg)
		}
		fails("a value", budget.Chart{Sigma: 1}, []float32{9, 9, f}, api.ErrArg)
		fails("a value", budget.Chart{}, []float32{f, 9}, api.ErrArg)
		fails("a value", budget.Chart{}, append(long[:999:999], f), api.ErrArg)
		fails("a value of too many", budget.Chart{}, append(long[:1000:1000], f), api.ErrSize)
	}
	for _, f := range []float32{-1, -math.SmallestNonzeroFloat32, -math.MaxFloat32} {
		fails("a sigma below 0", budget.Chart{Sigma: f}, nil, api.ErrArg)
		fails("a sigma below 0", budget.Chart{Sigma: f}, long, api.ErrArg)
	}
	fails("too many", budget.Chart{Sigma: 1}, long, api.ErrSize)
	hasAlarms(t, "a thousand values", budget.Chart{Sigma: 1}, long[:1000], nil)
}

// series returns a chart and values near it, in which runs are frequent.
func (d *dice) series() (budget.Chart, []float32) {
	c := budget.Chart{Centre: float32(d.below(9) - 4), Sigma: float32(d.below(9)) / 4}
	values := make([]float32, d.below(30))
	drift := float32(0)
	for i := range values {
		if d.below(4) == 0 {
			drift = float32(d.below(33)-16) / 4
		}
		values[i] = c.Centre + drift + float32(d.below(5)-2)/4
		if i > 0 && d.below(2) == 0 {
			values[i] = values[i-1] + drift/8
		}
	}
	return c, values
}

// TestAllAlarms compares with a slow search, and is P9.6 for alarms.
func TestAllAlarms(t *testing.T) {
	d := dice(31)
	counts := map[int]int{}
	for range 500 {
		c, values := d.series()
		want := alarmsOf(c, values)
		hasAlarms(t, "some values", c, values, want)
		mirrored := make([]float32, len(values))
		for i, f := range values {
			mirrored[i] = -f
		}
		hasAlarms(t, "mirrored", budget.Chart{Centre: -c.Centre, Sigma: c.Sigma}, mirrored, want)
		for at := range values {
			from := max(0, at-7)
			var here []budget.Alarm
			for _, a := range want {
				counts[a.Rule]++
				if a.At == at {
					here = append(here, budget.Alarm{Rule: a.Rule, At: at - from})
				}
			}
			l, e := budget.Alarms(c, values[from:at+1])
			l = slices.DeleteFunc(l, func(a budget.Alarm) bool { return a.At < at-from })
			if !slices.Equal(l, here) || e != api.OK {
				t.Errorf("Alarms of the last values up to %d of %v: %v, %d, want %v", at, values, l, e, here)
			}
		}
	}
	for rule := 1; rule <= 5; rule++ {
		if counts[rule] < 100 {
			t.Errorf("rule %d is violated %d times", rule, counts[rule])
		}
	}
}

// TestEqualValues is P9.6 for charts.
func TestEqualValues(t *testing.T) {
	d := dice(32)
	for range 50 {
		f := d.float()
		values := slices.Repeat([]float32{f}, 2+d.below(20))
		isChart(t, "equal values", values, f, 0)
		hasAlarms(t, "equal values", budget.Chart{Centre: f}, values, nil)
	}
}
