package scan

import (
	"slices"

	"waveport/api"
	"waveport/num"
)

// checkTimes returns the error of a list whose entries must be right and have ascending times.
func checkTimes[E any](l []E, read func(x E) (time num.Num, right bool)) api.Errno {
	if len(l) < 1 || len(l) > api.MaxTicks {
		return api.ErrSize
	}
	var ahead num.Num
	for k, x := range l {
		time, right := read(x)
		if !right {
			return api.ErrArg
		}
		if k > 0 && time.Cmp(ahead) <= 0 {
			return api.ErrOrder
		}
		ahead = time
	}
	return api.OK
}

// checkTicks returns the error of a list of ticks.
func checkTicks(l []Tick) api.Errno {
	return checkTimes(l, func(x Tick) (num.Num, bool) { return x.Time, x.Time.Real() && x.Place.Real() })
}

// checkSamples returns the error of a list of samples.
func checkSamples[T num.Field[T]](l []Sample[T]) api.Errno {
	return checkTimes(l, func(x Sample[T]) (num.Num, bool) { return x.Time, x.Time.Real() })
}

// part returns which part of the way from p to q leads to x. p and q differ.
func part(x, p, q num.Num) num.Num {
	r, _ := x.Sub(p).Div(q.Sub(p))
	return r
}

// valueAt returns the value at a time, and whether it is neither before the first nor behind the last sample.
func valueAt[T num.Field[T]](l []Sample[T], t num.Num) (T, bool) {
	k, found := slices.BinarySearchFunc(l, t, func(x Sample[T], t num.Num) int { return x.Time.Cmp(t) })
	switch {
	case found:
		return l[k].Value, true
	case k == 0 || k == len(l):
		return of[T](num.Num{}), false
	}
	a, b := l[k-1], l[k]
	return between(a.Value, b.Value, part(t, a.Time, b.Time)), true
}

// Where returns the place of the probe at a time.
func Where(l []Tick, t num.Num) (num.Num, api.Errno) {
	if e := checkTicks(l); e != api.OK {
		return num.Num{}, e
	}
	if !t.Real() {
		return num.Num{}, api.ErrArg
	}
	path := make([]Sample[num.Num], len(l))
	for k, x := range l {
		path[k] = Sample[num.Num]{x.Time, x.Place}
	}
	x, ok := valueAt(path, t)
	if !ok {
		return num.Num{}, api.ErrNone
	}
	return x, api.OK
}

// When returns the first time at which the probe is at a place.
func When(l []Tick, place num.Num) (num.Num, api.Errno) {
	if e := checkTicks(l); e != api.OK {
		return num.Num{}, e
	}
	if !place.Real() {
		return num.Num{}, api.ErrArg
	}
	t, ok := firstTime(l, place)
	if !ok {
		return num.Num{}, api.ErrNone
	}
	return t, api.OK
}

// firstTime returns the first time at which the probe is at a place, and whether there is one. Until then all ticks lie on the same side of the place.
func firstTime(l []Tick, place num.Num) (num.Num, bool) {
	ahead := 0
	for k, b := range l {
		side := b.Place.Cmp(place)
		if side == 0 {
			return b.Time, true
		}
		if side == -ahead {
			a := l[k-1]
			return between(a.Time, b.Time, part(place, a.Place, b.Place)), true
		}
		ahead = side
	}
	return num.Num{}, false
}

// Line returns the values at n places along a line, from samples on the fly, and the indices of those that are missing.
func Line[T num.Field[T]](ticks []Tick, l []Sample[T], start, step num.Num, n int) ([]T, []int, api.Errno) {
	if e := checkTicks(ticks); e != api.OK {
		return nil, nil, e
	}
	if e := checkSamples(l); e != api.OK {
		return nil, nil, e
	}
	if !start.Real() || !step.Real() || !step.Clear() {
		return nil, nil, api.ErrArg
	}
	if n < 1 || n > api.MaxGrid {
		return nil, nil, api.ErrSize
	}
	values := make([]T, n)
	var missing []int
	for k := range values {
		place := start.Add(step.Mul(num.Int(int64(k))))
		x, ok := valueAtPlace(ticks, l, place)
		if !ok {
			missing = append(missing, k)
		}
		values[k] = x
	}
	return values, missing, api.OK
}

// valueAtPlace returns the value at the first time at which the probe is at a place, or 0 and false.
func valueAtPlace[T num.Field[T]](ticks []Tick, l []Sample[T], place num.Num) (T, bool) {
	t, ok := firstTime(ticks, place)
	if !ok {
		return of[T](num.Num{}), false
	}
	return valueAt(l, t)
}
