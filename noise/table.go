package noise

import (
	"sort"

	"waveport/api"
	"waveport/num"
)

// Entry is the value of a table at a frequency.
type Entry struct{ Freq, Value num.Num }

// checkTable returns the error of a table.
func checkTable(l []Entry) api.Errno {
	if len(l) < 1 || len(l) > api.MaxPoints {
		return api.ErrSize
	}
	for i, x := range l {
		switch {
		case !positive(x.Freq) || !x.Value.Real():
			return api.ErrArg
		case i > 0 && x.Freq.Cmp(l[i-1].Freq) <= 0:
			return api.ErrOrder
		}
	}
	return api.OK
}

// Lookup returns the value of a table at a frequency, by linear interpolation.
func Lookup(l []Entry, f num.Num) (num.Num, api.Errno) {
	if e := checkTable(l); e != api.OK {
		return num.Num{}, e
	}
	if !f.Real() {
		return num.Num{}, api.ErrArg
	}
	i := sort.Search(len(l), func(i int) bool { return l[i].Freq.Cmp(f) >= 0 })
	switch {
	case i == len(l):
		return num.Num{}, api.ErrNone
	case l[i].Freq.Same(f):
		return l[i].Value, api.OK
	case i == 0:
		return num.Num{}, api.ErrNone
	}
	a, b := l[i-1], l[i]
	share, _ := f.Sub(a.Freq).Div(b.Freq.Sub(a.Freq))
	return a.Value.Add(b.Value.Sub(a.Value).Mul(share)), api.OK
}
