package noise

import (
	"slices"

	"waveport/api"
	"waveport/num"
)

// power returns the exact value of a power, and whether it is finite and above 0.
func power(p float32) (num.Num, bool) {
	x, e := num.Complex64(complex(p, 0))
	return x, e == api.OK && positive(x)
}

// checkLevels returns the error of a power sweep.
func checkLevels(l []api.Level) api.Errno {
	if len(l) < 1 || len(l) > api.MaxLevels {
		return api.ErrSize
	}
	for i, x := range l {
		_, ok := power(x.In)
		_, fine := power(x.Out)
		switch {
		case !ok || !fine:
			return api.ErrArg
		case i > 0 && x.In <= l[i-1].In:
			return api.ErrOrder
		}
	}
	return api.OK
}

// Gain returns the power gain at each level of a power sweep.
func Gain(l []api.Level) ([]num.Num, api.Errno) {
	if e := checkLevels(l); e != api.OK {
		return nil, e
	}
	gains := make([]num.Num, len(l))
	for i, x := range l {
		in, _ := power(x.In)
		out, _ := power(x.Out)
		gains[i], _ = out.Div(in)
	}
	return gains, api.OK
}

// Compression returns the input power at which the gain has fallen to a fraction of the first one.
func Compression(l []api.Level, fraction num.Num) (num.Num, api.Errno) {
	gains, e := Gain(l)
	if e != api.OK {
		return num.Num{}, e
	}
	if !positive(fraction) || fraction.Cmp(num.Int(1)) >= 0 {
		return num.Num{}, api.ErrArg
	}
	bound := gains[0].Mul(fraction)
	i := slices.IndexFunc(gains, func(g num.Num) bool { return g.Cmp(bound) <= 0 })
	if i < 0 {
		return num.Num{}, api.ErrNone
	}
	// The first gain is above the bound, so there is a level ahead. The line from that to level i is less steep than the bound, so they meet.
	p, _ := power(l[i-1].In)
	q, _ := power(l[i-1].Out)
	a, _ := power(l[i].In)
	b, _ := power(l[i].Out)
	slope, _ := b.Sub(q).Div(a.Sub(p))
	in, _ := q.Sub(slope.Mul(p)).Div(bound.Sub(slope))
	return in, api.OK
}

// Intercept returns the square of the third-order intercept power.
func Intercept(p1, p3 num.Num) (num.Num, api.Errno) {
	if !positive(p1) || !positive(p3) {
		return num.Num{}, api.ErrArg
	}
	squared, _ := p1.Mul(p1).Mul(p1).Div(p3)
	return squared, api.OK
}
