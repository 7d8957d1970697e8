package budget

import (
	"waveport/api"
	"waveport/num"
)

// exactOf returns the exact value of a float32, and whether it is finite.
func exactOf(f float32) (num.Num, bool) {
	x, e := num.Complex64(complex(f, 0))
	return x, e == api.OK
}

// exactAll returns the exact values of float32s, and whether all are finite.
func exactAll(values []float32) ([]num.Num, bool) {
	l := make([]num.Num, len(values))
	for i, f := range values {
		x, ok := exactOf(f)
		if !ok {
			return nil, false
		}
		l[i] = x
	}
	return l, true
}

// size returns the absolute value of a real number.
func size(x num.Num) num.Num {
	if sign(x) < 0 {
		return x.Neg()
	}
	return x
}

// mean returns the mean of n real numbers, multiplied by p/q, as the nearest float32.
func mean(l []num.Num, p, q int64) float32 {
	var sum num.Num
	for _, x := range l {
		sum = sum.Add(x)
	}
	m, _ := sum.Mul(num.Int(p)).Div(num.Int(q * int64(len(l))))
	return real(m.Near64())
}

// Found returns the chart of some values.
func Found(values []float32) (Chart, api.Errno) {
	if len(values) < 2 || len(values) > api.MaxValues {
		return Chart{}, api.ErrSize
	}
	l, ok := exactAll(values)
	if !ok {
		return Chart{}, api.ErrArg
	}
	steps := make([]num.Num, len(l)-1)
	for i := range steps {
		steps[i] = size(l[i+1].Sub(l[i]))
	}
	return Chart{mean(l, 1, 1), mean(steps, 1000, 1128)}, api.OK
}

// rule is violated by a value that is beyond some Sigmas, as are at least so many (count) of those ahead, on the same side.
type rule struct{ beyond, ahead, count int }

// rules are the rules of a chart from rule 1 on, without the last one.
var rules = [...]rule{{3, 0, 0}, {2, 2, 1}, {1, 4, 3}, {0, 7, 7}}

const (
	trendRule  = 5 // the rule of values that only ascend, or only descend
	trendAhead = 5 // how many values ahead of one it looks at
	maxBeyond  = 3 // the greatest number of Sigmas of a rule
)

// Alarms returns the violations of the rules of a chart.
func Alarms(c Chart, values []float32) ([]Alarm, api.Errno) {
	centre, ok := exactOf(c.Centre)
	sigma, fine := exactOf(c.Sigma)
	if !ok || !fine || sign(sigma) < 0 {
		return nil, api.ErrArg
	}
	if len(values) > api.MaxValues {
		return nil, api.ErrSize
	}
	l, ok := exactAll(values)
	if !ok {
		return nil, api.ErrArg
	}
	above, below := make([]int, len(l)), make([]int, len(l))
	for i, x := range l {
		z := x.Sub(centre)
		above[i], below[i] = reach(z, sigma), reach(z.Neg(), sigma)
	}
	var alarms []Alarm
	for at := range l {
		for i, r := range rules {
			if r.violated(above, at) || r.violated(below, at) {
				alarms = append(alarms, Alarm{i + 1, at})
			}
		}
		if trend(values, at) {
			alarms = append(alarms, Alarm{trendRule, at})
		}
	}
	return alarms, api.OK
}

// reach returns how many of 0, 1, 2 and 3 Sigmas z is greater than.
func reach(z, sigma num.Num) int {
	n := 0
	for n <= maxBeyond && z.Cmp(num.Int(int64(n)).Mul(sigma)) > 0 {
		n++
	}
	return n
}

// violated reports whether the value at an index violates the rule on the side to which the reaches belong.
func (r rule) violated(reaches []int, at int) bool {
	if reaches[at] <= r.beyond {
		return false
	}
	n := 0
	for _, x := range reaches[max(0, at-r.ahead):at] {
		if x > r.beyond {
			n++
		}
	}
	return n >= r.count
}

// trend reports whether the value at an index and those ahead of it only ascend, or only descend.
func trend(values []float32, at int) bool {
	if at < trendAhead {
		return false
	}
	up, down := true, true
	for i := at - trendAhead; i < at; i++ {
		up = up && values[i] < values[i+1]
		down = down && values[i] > values[i+1]
	}
	return up || down
}
