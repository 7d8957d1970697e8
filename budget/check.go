package budget

import (
	"waveport/api"
	"waveport/num"
)

// maxLinks is the greatest number of links of a budget.
const maxLinks = 1024

// isLetter reports whether c is an ASCII letter.
func isLetter(c byte) bool {
	return 'a' <= c && c <= 'z' || 'A' <= c && c <= 'Z'
}

// isDigit reports whether c is an ASCII digit.
func isDigit(c byte) bool {
	return '0' <= c && c <= '9'
}

// isPart reports whether c can be a byte of a name.
func isPart(c byte) bool {
	return isLetter(c) || isDigit(c) || c == '_'
}

// isName reports whether s is a name.
func isName(s string) bool {
	if s == "" || len(s) > api.MaxName || !isLetter(s[0]) {
		return false
	}
	for i := range len(s) {
		if !isPart(s[i]) {
			return false
		}
	}
	return true
}

// sign returns -1, 0 or 1 for a real x.
func sign(x num.Num) int {
	return x.Cmp(num.Num{})
}

// positive reports whether x is real and above 0.
func positive(x num.Num) bool {
	return x.Real() && sign(x) > 0
}

// notNegative reports whether x is real and not below 0.
func notNegative(x num.Num) bool {
	return x.Real() && sign(x) >= 0
}

// checkTerm returns the error of a term.
func checkTerm(t Term) api.Errno {
	fine := isName(t.Name) && t.Value.Real() && notNegative(t.Half)
	switch t.Shape {
	case Normal:
		fine = fine && positive(t.Factor)
	case Rectangle, Triangle, Arcsine:
		fine = fine && !t.Factor.Clear()
	default:
		fine = false
	}
	if !fine {
		return api.ErrArg
	}
	return api.OK
}

// Valid returns the error of a budget.
func Valid(b Budget) api.Errno {
	if len(b.Terms) > api.MaxTerms || len(b.Results) > api.MaxTerms || len(b.Links) > maxLinks {
		return api.ErrSize
	}
	known := map[string]int{}
	for i, t := range b.Terms {
		if e := checkTerm(t); e != api.OK {
			return e
		}
		if _, ok := known[t.Name]; ok {
			return api.ErrTwice
		}
		known[t.Name] = i
	}
	m, e := covariances(b, known)
	if e != api.OK {
		return e
	}
	if fine, _, _ := num.Definite(m); !fine {
		return api.ErrLink
	}
	return checkResults(b.Results, known)
}

// covariances returns the matrix of the covariances of all terms, whose indexes are given by their names, or the error of the links.
func covariances(b Budget, index map[string]int) ([][]num.Num, api.Errno) {
	m := make([][]num.Num, len(b.Terms))
	for i, t := range b.Terms {
		m[i] = make([]num.Num, len(b.Terms))
		m[i][i], _ = Variance(t)
	}
	linked := map[[2]int]bool{}
	for _, l := range b.Links {
		i, first := index[l.A]
		k, second := index[l.B]
		pair := [2]int{min(i, k), max(i, k)}
		switch {
		case !first || !second:
			return nil, api.ErrNone
		case i == k || !l.Covariance.Real():
			return nil, api.ErrArg
		case linked[pair]:
			return nil, api.ErrTwice
		}
		linked[pair] = true
		m[i][k], m[k][i] = l.Covariance, l.Covariance
	}
	return m, api.OK
}

// checkResults returns the error of results behind terms with known names, to which it adds theirs.
func checkResults(results []Result, known map[string]int) api.Errno {
	for i, r := range results {
		if !isName(r.Name) {
			return api.ErrArg
		}
		if _, ok := known[r.Name]; ok {
			return api.ErrTwice
		}
		if e := checkExpr(r.Expr); e != api.OK {
			return e
		}
		isKnown := func(x Expr) bool {
			_, ok := known[x.Name]
			return ok || x.Kind != Name
		}
		if !every(r.Expr, isKnown) {
			return api.ErrNone
		}
		known[r.Name] = i
	}
	return api.OK
}
