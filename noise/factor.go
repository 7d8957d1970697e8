package noise

import (
	"slices"

	"waveport/api"
	"waveport/num"
)

// Factor returns the noise factor from port 1 to port 2 for a source of the reflection coefficient g at the temperature t0.
func Factor[T num.Field[T]](n Noisy[T], g T, t0 num.Num) (T, api.Errno) {
	var none T
	if !positive(t0) {
		return none, api.ErrArg
	}
	if n.net.Ports() != 2 {
		return none, api.ErrSize
	}
	z, _ := n.net.Ref(1)
	s, one := scattering(n.net), of[T](num.Int(1))
	gain := s[1][0]
	w := [][]T{{gain.Mul(g), one.Sub(g.Mul(s[0][0]))}}
	d := gain.Mul(gain.Conj()).Mul(of[T](t0.Mul(z))).Mul(one.Sub(g.Mul(g.Conj())))
	added, e := carried(n.c, w)[0][0].Div(d)
	if e != api.OK {
		return none, api.ErrZero
	}
	return one.Add(added), api.OK
}

// Possible reports whether the correlation matrix is Hermitian and positive semidefinite, or returns weights for which the power of the noise would be negative.
func Possible(n Noisy[num.Num]) (ok bool, witness []num.Num) {
	ok, witness, _ = num.Definite(n.c)
	return ok, witness
}

// Thermal returns the temperature at which the noise of n is its own, and whether there is one.
func Thermal(n Noisy[num.Num]) (num.Num, bool) {
	// The own noise is proportional to the temperature, so one element tells it.
	unit, _ := Own(n.net, num.Int(1))
	var t num.Num
	for i, row := range unit.c {
		if k := slices.IndexFunc(row, num.Num.Clear); k >= 0 {
			t, _ = n.c[i][k].Div(row[k])
			break
		}
	}
	own, e := Own(n.net, t)
	if e != api.OK || !Equal(own, n) {
		return num.Num{}, false
	}
	return t, true
}

// Temperature returns the noise temperature of a receiver that measures the power ph with a source at the temperature hot, and pc with one at cold.
func Temperature(hot, cold num.Num, ph, pc float32) (num.Num, api.Errno) {
	high, ok := power(ph)
	low, fine := power(pc)
	if !isTemperature(hot) || !isTemperature(cold) || !ok || !fine {
		return num.Num{}, api.ErrArg
	}
	if hot.Cmp(cold) <= 0 || high.Cmp(low) <= 0 {
		return num.Num{}, api.ErrOrder
	}
	y, _ := high.Div(low)
	t, _ := hot.Sub(y.Mul(cold)).Div(y.Sub(num.Int(1)))
	if !isTemperature(t) {
		return num.Num{}, api.ErrNone
	}
	return t, api.OK
}

// FactorOf returns the noise factor of a noise temperature.
func FactorOf(temp, t0 num.Num) (num.Num, api.Errno) {
	if !isTemperature(temp) || !positive(t0) {
		return num.Num{}, api.ErrArg
	}
	added, _ := temp.Div(t0)
	return num.Int(1).Add(added), api.OK
}

// First returns the noise factor of a device of the available gain g, measured with a receiver of its own noise factor.
func First(total, receiver, g num.Num) (num.Num, api.Errno) {
	one := num.Int(1)
	if !atLeast(total, one) || !atLeast(receiver, one) || !positive(g) {
		return num.Num{}, api.ErrArg
	}
	behind, _ := receiver.Sub(one).Div(g)
	f := total.Sub(behind)
	if !atLeast(f, one) {
		return num.Num{}, api.ErrNone
	}
	return f, api.OK
}
