package transform_test

import (
	"math"
	"strconv"
	"testing"

	"waveport/api"
	"waveport/num"
	"waveport/transform"
)

func TestListExamples(t *testing.T) {
	l, e := transform.Shift(list(t, "1 2 3"), -1)
	is(t, "Shift", l, e, "2 3 1")
	l, e = transform.Convolve(list(t, "1 2"), list(t, "3 4"))
	is(t, "Convolve", l, e, "11 10")
	l, e = transform.Convolve(list(t, "1 2 3"), list(t, "4 5i 6"))
	is(t, "Convolve of three", l, e, "16+15i 26+5i 18+10i")
	l, e = transform.Steps(list(t, "1 2i 3"))
	is(t, "Steps", l, e, "1 1+2i 4+2i")
	l, e = transform.Extend(list(t, "2+1i"), num.Int(3))
	is(t, "Extend", l, e, "3 2+1i 0 2-1i")
	l, e = transform.FastBack(l, factors(t, 4))
	is(t, "FastBack", l, e, "7/4 1/4 -1/4 5/4")
	l, e = transform.Extend(nil, parse(t, "3-2i"))
	is(t, "Extend of nothing", l, e, "3-2i 0")
	x, e := transform.Energy(list(t, "1 2i 3+4i"))
	is(t, "Energy", []num.Num{x}, e, "30")
	x, e = transform.Zero(list(t, "2+1i 1+3i"))
	is(t, "Zero", []num.Num{x}, e, "3")
	x, e = transform.Zero(list(t, "1/2+1i 1/3-5i 7 8"))
	is(t, "Zero of four", []num.Num{x}, e, "2/3")
}

func TestShift(t *testing.T) {
	d := dice(8)
	for n := range 65 {
		x := d.list(n)
		for _, by := range []int{0, 1, -1, 2, n, -n, n + 1, -n - 1, 7 * n, 1000, -1000, math.MaxInt, math.MinInt, math.MaxInt - 1, math.MinInt + 1} {
			y, e := transform.Shift(x, by)
			if len(y) != n || e != api.OK {
				t.Errorf("Shift of %d by %d: %d, %d", n, by, len(y), e)
				continue
			}
			for j := range y {
				// The element came from the position from with from + by = j, modulo n.
				from := j - by%n
				if from < 0 {
					from += n
				}
				if from >= n {
					from -= n
				}
				if !y[j].Same(x[from]) {
					t.Errorf("Shift of %d by %d, element %d: %s", n, by, j, y[j].Text())
				}
			}
		}
	}
}

func TestConvolve(t *testing.T) {
	d := dice(9)
	for n := range 65 {
		x, y := d.list(n), d.list(n)
		want := make([]num.Num, n)
		for i := range x {
			for k := range y {
				want[(i+k)%n] = want[(i+k)%n].Add(x[i].Mul(y[k]))
			}
		}
		l, e := transform.Convolve(x, y)
		like(t, "Convolve of "+strconv.Itoa(n), l, e, want)
	}
	for _, c := range [][2]int{{0, 1}, {1, 0}, {2, 3}, {64, 63}, {63, 64}, {64, 65}, {65, 64}, {65, 65}, {128, 128}, {0, 65}} {
		l, e := transform.Convolve(make([]num.Num, c[0]), make([]num.Num, c[1]))
		fails(t, "Convolve", l, e, api.ErrSize)
	}
}

func TestSums(t *testing.T) {
	d := dice(10)
	for n := range 65 {
		x := d.list(n)
		y, e := transform.Steps(x)
		if len(y) != n || e != api.OK {
			t.Errorf("Steps of %d: %d, %d", n, len(y), e)
		}
		for j := range y {
			if !y[j].Same(total(x[:j+1])) {
				t.Errorf("Steps of %s, element %d: %s", listText(x), j, y[j].Text())
			}
		}
		s, e := transform.Energy(x)
		if !s.Same(total(zip(x, x, func(a, _ num.Num) num.Num { return a.Norm() }))) || e != api.OK {
			t.Errorf("Energy of %s: %s, %d", listText(x), s.Text(), e)
		}
	}
	long := dice(11)
	for _, n := range []int{65, 66, 128, 1000} {
		l, e := transform.Steps(long.list(n))
		fails(t, "Steps", l, e, api.ErrSize)
		l, e = transform.Shift(long.list(n), 1)
		fails(t, "Shift", l, e, api.ErrSize)
		s, e := transform.Energy(long.list(n))
		if s.Clear() || e != api.ErrSize {
			t.Errorf("Energy of %d: %s, %d", n, s.Text(), e)
		}
		l, e = transform.Extend(long.list(n), num.Int(1))
		fails(t, "Extend", l, e, api.ErrSize)
	}
}

// TestExtend is P7.6 for numbers, and compares with the chapter's description.
func TestExtend(t *testing.T) {
	d := dice(12)
	for n := range 66 {
		x, dc := d.list(n), d.small().Re()
		y, e := transform.Extend(x, dc)
		size := 2 * (n + 1)
		if !map[int]bool{2: true, 4: true, 8: true, 16: true, 32: true, 64: true}[size] {
			fails(t, "Extend of "+strconv.Itoa(n), y, e, api.ErrSize)
			continue
		}
		want := append([]num.Num{dc}, x...)
		want = append(want, num.Int(0))
		for k := n - 1; k >= 0; k-- {
			want = append(want, x[k].Conj())
		}
		like(t, "Extend of "+strconv.Itoa(n), y, e, want)
		if size > 4 {
			continue
		}
		response, e := transform.Back(y, factors(t, size))
		for _, r := range response {
			if !r.Real() {
				t.Errorf("the response of %s: %s", listText(y), listText(response))
			}
		}
		if e != api.OK || !total(response).Same(dc) {
			t.Errorf("the response of %s: %s, %d", listText(y), listText(response), e)
		}
	}
}

func TestZero(t *testing.T) {
	d := dice(13)
	for n := range 70 {
		x := d.list(n)
		z, e := transform.Zero(x)
		if n < 2 || n > 64 {
			if z.Clear() || e != api.ErrSize {
				t.Errorf("Zero of %d: %s, %d", n, z.Text(), e)
			}
			continue
		}
		if want := num.Int(2).Mul(x[0]).Sub(x[1]).Re(); !z.Same(want) || e != api.OK {
			t.Errorf("Zero of %s: %s, %d, want %s", listText(x), z.Text(), e, want.Text())
		}
	}
}
