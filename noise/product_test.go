package noise_test

import (
	"math"
	"strconv"
	"strings"
	"testing"

	"waveport/api"
	"waveport/noise"
	"waveport/num"
)

// productsText is a text of mixing products.
func productsText(l []noise.Product) string {
	var words []string
	for _, p := range l {
		words = append(words, strconv.Itoa(p.M)+","+strconv.Itoa(p.N)+":"+p.Freq.Text())
	}
	return strings.Join(words, " ")
}

func TestProducts(t *testing.T) {
	for _, c := range []struct {
		f1, f2, lo, hi string
		order          int
		want           string
		e              api.Errno
	}{
		{"10", "7", "1", "5", 3, "1,-1:3 -1,2:4", api.OK},
		{"10", "7", "3", "4", 3, "1,-1:3 -1,2:4", api.OK},
		{"10", "7", "-50", "50", 1, "0,1:7 1,0:10", api.OK},
		{"10", "7", "-50", "50", 2, "1,-1:3 0,1:7 1,0:10 0,2:14 1,1:17 2,0:20", api.OK},
		{"10", "7", "0", "0", 15, "", api.OK},
		{"10", "7", "-50", "-1", 15, "", api.OK},
		{"10", "7", "1/2", "3/2", 4, "", api.OK},
		{"10", "7", "1/2", "3/2", 5, "-2,3:1", api.OK},
		{"2", "2", "2", "2", 3, "0,1:2 1,0:2 -1,2:2 2,-1:2", api.OK},
		{"1", "2", "2", "2", 4, "0,1:2 2,0:2 -2,2:2", api.OK},
		{"1/2", "1/3", "1/6", "1/6", 2, "1,-1:1/6", api.OK},
		{"1", "1", "15", "15", 15, "0,15:15 1,14:15 2,13:15 3,12:15 4,11:15 5,10:15 6,9:15 7,8:15 8,7:15 9,6:15 10,5:15 11,4:15 12,3:15 13,2:15 14,1:15 15,0:15", api.OK},
		{"0", "7", "1", "5", 3, "", api.ErrArg}, {"-1", "7", "1", "5", 3, "", api.ErrArg}, {"1i", "7", "1", "5", 3, "", api.ErrArg}, {"1+1i", "7", "1", "5", 3, "", api.ErrArg},
		{"1", "0", "1", "5", 3, "", api.ErrArg}, {"1", "-7", "1", "5", 3, "", api.ErrArg}, {"1", "7i", "1", "5", 3, "", api.ErrArg}, {"1", "7+1i", "1", "5", 3, "", api.ErrArg},
		{"1", "7", "1i", "5", 3, "", api.ErrArg}, {"1", "7", "9+1i", "5", 3, "", api.ErrArg}, {"1", "7", "1", "5i", 3, "", api.ErrArg}, {"1", "7", "1", "5+1i", 3, "", api.ErrArg},
		{"1", "7", "1", "5", 0, "", api.ErrArg}, {"1", "7", "5", "1", -1, "", api.ErrArg}, {"1", "7", "1", "5", 16, "", api.ErrArg}, {"1", "7", "1", "5", math.MaxInt, "", api.ErrArg}, {"1", "7", "1", "5", math.MinInt, "", api.ErrArg},
		{"1", "7", "5", "1", 3, "", api.ErrOrder}, {"1", "7", "-1", "-5", 3, "", api.ErrOrder},
	} {
		l, e := noise.Products(parse(t, c.f1), parse(t, c.f2), parse(t, c.lo), parse(t, c.hi), c.order)
		if productsText(l) != c.want || e != c.e {
			t.Errorf("Products of %s, %s from %s to %s up to %d: %s, %d, want %s, %d", c.f1, c.f2, c.lo, c.hi, c.order, productsText(l), e, c.want, c.e)
		}
	}
}

// size returns the absolute value of n.
func size(n int) int { return max(n, -n) }

// TestProductsOfAny is P5.1 and P5.7 for Products: all products are there, in their order, with those of exchanged frequencies, and none has its mirror image.
func TestProductsOfAny(t *testing.T) {
	d := dice(14)
	for i := range 60 {
		f := d.refs(3)
		order, lo, hi := i%15+1, f[2].Sub(num.Int(3)), f[2].Add(num.Int(9))
		l, e := noise.Products(f[0], f[1], lo, hi, order)
		back, g := noise.Products(f[1], f[0], lo, hi, order)
		there, exchanged := map[[2]int]bool{}, map[[2]int]bool{}
		for k, p := range l {
			there[[2]int{p.M, p.N}] = true
			if k == 0 {
				continue
			}
			q := l[k-1]
			c, more := p.Freq.Cmp(q.Freq), size(p.M)+size(p.N)-size(q.M)-size(q.N)
			if c < 0 || c == 0 && (more < 0 || more == 0 && p.M <= q.M) {
				t.Errorf("the order of %s", productsText(l[k-1:k+1]))
			}
		}
		for _, p := range back {
			exchanged[[2]int{p.N, p.M}] = true
		}
		count := 0
		for m := -order; m <= order; m++ {
			for n := size(m) - order; n <= order-size(m); n++ {
				x := f[0].Mul(num.Int(int64(m))).Add(f[1].Mul(num.Int(int64(n))))
				fits := x.Cmp(num.Num{}) > 0 && x.Cmp(lo) >= 0 && x.Cmp(hi) <= 0
				at := [2]int{m, n}
				if there[at] != fits || exchanged[at] != fits || fits && there[[2]int{-m, -n}] {
					t.Errorf("%d, %d at %s: %v, %v", m, n, x.Text(), there[at], exchanged[at])
				}
				if fits {
					count++
				}
			}
		}
		if e != api.OK || g != api.OK || count != len(l) || count != len(back) {
			t.Errorf("%d products, want %d, %d, %d", len(l), count, e, g)
		}
		for _, p := range l {
			if x := f[0].Mul(num.Int(int64(p.M))).Add(f[1].Mul(num.Int(int64(p.N)))); !x.Same(p.Freq) {
				t.Errorf("%s is at %s", productsText([]noise.Product{p}), x.Text())
			}
		}
	}
}
