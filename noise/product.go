package noise

import (
	"cmp"
	"slices"

	"waveport/api"
	"waveport/num"
)

// Product is a mixing product M f1 + N f2 and its frequency.
type Product struct {
	M, N int
	Freq num.Num
}

// order returns the order of a mixing product.
func (p Product) order() int {
	return max(p.M, -p.M) + max(p.N, -p.N)
}

// compare returns -1, 0 or 1 for the order in which Products returns its results.
func (p Product) compare(q Product) int {
	return cmp.Or(p.Freq.Cmp(q.Freq), cmp.Compare(p.order(), q.order()), cmp.Compare(p.M, q.M))
}

// Products returns the mixing products of two frequencies in a band, up to an order.
func Products(f1, f2, lo, hi num.Num, order int) ([]Product, api.Errno) {
	if !positive(f1) || !positive(f2) || !lo.Real() || !hi.Real() || order < 1 || order > api.MaxOrder {
		return nil, api.ErrArg
	}
	if lo.Cmp(hi) > 0 {
		return nil, api.ErrOrder
	}
	var l []Product
	for m := -order; m <= order; m++ {
		for n := -order; n <= order; n++ {
			p := Product{m, n, f1.Mul(num.Int(int64(m))).Add(f2.Mul(num.Int(int64(n))))}
			// The frequency of order 0 is not above 0.
			if p.order() <= order && positive(p.Freq) && p.Freq.Cmp(lo) >= 0 && p.Freq.Cmp(hi) <= 0 {
				l = append(l, p)
			}
		}
	}
	slices.SortFunc(l, Product.compare)
	return l, api.OK
}
