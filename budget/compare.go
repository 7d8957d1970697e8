package budget

import (
	"slices"

	"waveport/api"
	"waveport/num"
)

// checkEntries returns the error of entries.
func checkEntries(l []Entry) api.Errno {
	if len(l) < 2 || len(l) > api.MaxTerms {
		return api.ErrSize
	}
	seen := map[string]bool{}
	for _, x := range l {
		switch {
		case !isName(x.Laboratory) || !x.Value.Real() || !positive(x.Variance):
			return api.ErrArg
		case seen[x.Laboratory]:
			return api.ErrTwice
		}
		seen[x.Laboratory] = true
	}
	return api.OK
}

// Reference returns the weighted mean of entries, and its variance.
func Reference(l []Entry) (num.Num, num.Num, api.Errno) {
	if e := checkEntries(l); e != api.OK {
		return num.Num{}, num.Num{}, e
	}
	var sum, weights num.Num
	for _, x := range l {
		w, _ := num.Int(1).Div(x.Variance)
		weights = weights.Add(w)
		sum = sum.Add(x.Value.Mul(w))
	}
	mean, _ := sum.Div(weights)
	variance, _ := num.Int(1).Div(weights)
	return mean, variance, api.OK
}

// Scores returns the squares of the normalized deviations of entries from their reference.
func Scores(l []Entry, factor num.Num) ([]num.Num, api.Errno) {
	mean, variance, e := Reference(l)
	if e != api.OK {
		return nil, e
	}
	if !positive(factor) {
		return nil, api.ErrArg
	}
	scores := make([]num.Num, len(l))
	for i, x := range l {
		// The variance of the mean is below that of each of at least two entries.
		d := x.Value.Sub(mean)
		scores[i], _ = d.Mul(d).Div(factor.Mul(factor).Mul(x.Variance.Sub(variance)))
	}
	return scores, api.OK
}

// Consistent returns the entries that agree, without the ones that deviate most.
func Consistent(l []Entry, factor num.Num) ([]Entry, api.Errno) {
	rest := slices.Clone(l)
	for {
		scores, e := Scores(rest, factor)
		if e != api.OK {
			return nil, e
		}
		worst := greatest(scores)
		if scores[worst].Cmp(num.Int(1)) <= 0 {
			return rest, api.OK
		}
		if len(rest) == 2 {
			return nil, api.ErrNone
		}
		rest = slices.Delete(rest, worst, worst+1)
	}
}

// greatest returns the index of the first of the greatest numbers.
func greatest(l []num.Num) int {
	at := 0
	for i, x := range l {
		if x.Cmp(l[at]) > 0 {
			at = i
		}
	}
	return at
}
