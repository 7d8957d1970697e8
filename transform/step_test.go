package transform_test

import (
	"strconv"
	"strings"
	"testing"

	"waveport/api"
	"waveport/num"
	"waveport/transform"
)

// The tests of this file are about R9: over boxes, the steps determine the corners.

// step is a number type that writes down the steps.
type step string

func (x step) Of(y num.Num) step { return step(y.Text()) }
func (x step) Add(y step) step   { return "(" + x + "+" + y + ")" }
func (x step) Sub(y step) step   { return "(" + x + "-" + y + ")" }
func (x step) Mul(y step) step   { return "(" + x + "*" + y + ")" }
func (x step) Neg() step         { return "neg" + x }
func (x step) Conj() step        { return x + "'" }
func (x step) Clear() bool       { return x != "0" }
func (x step) Same(y step) bool  { return x == y }
func (x step) Div(y step) (step, api.Errno) {
	return "(" + x + "/" + y + ")", api.OK
}

func steps(s string) []step {
	var l []step
	for _, w := range strings.Fields(s) {
		l = append(l, step(w))
	}
	return l
}

// has tests the steps of a result.
func has(t *testing.T, what string, l []step, e api.Errno, want string) {
	t.Helper()
	like(t, what, l, e, steps(want))
}

// filled returns a text in which each letter is replaced by another text.
func filled(s string, pairs ...string) string {
	return strings.NewReplacer(pairs...).Replace(s)
}

func TestStepsOfTransforms(t *testing.T) {
	one, two, four := steps("a"), steps("a b"), steps("a b c d")
	v, w := steps("v w"), steps("w x y z")
	l, e := transform.Forward(one, v[:1])
	has(t, "Forward of one", l, e, "(a*v)")
	l, e = transform.Forward(two, v)
	has(t, "Forward of two", l, e, "((a*v)+(b*v)) ((a*v)+(b*w))")
	l, e = transform.Forward(four, w)
	const forward = "((((a*w)+(b*w))+(c*w))+(d*w)) ((((a*w)+(b*x))+(c*y))+(d*z)) ((((a*w)+(b*y))+(c*w))+(d*y)) ((((a*w)+(b*z))+(c*y))+(d*x))"
	has(t, "Forward of four", l, e, forward)
	l, e = transform.Back(one, v[:1])
	has(t, "Back of one", l, e, "((a*v')*1)")
	l, e = transform.Back(two, v)
	has(t, "Back of two", l, e, "(((a*v')+(b*v'))*1/2) (((a*v')+(b*w'))*1/2)")
	l, e = transform.Back(four, w)
	conj := strings.Fields(filled(forward, "w", "w'", "x", "x'", "y", "y'", "z", "z'"))
	has(t, "Back of four", l, e, "("+strings.Join(conj, "*1/4) (")+"*1/4)")
	l, e = transform.Fast(one, v[:1])
	has(t, "Fast of one", l, e, "a")
	l, e = transform.Fast(two, v)
	has(t, "Fast of two", l, e, "(a+(b*v)) (a-(b*v))")
	l, e = transform.Fast(four, w)
	const fast = "((a+(c*w))+((b+(d*w))*w)) ((a-(c*w))+((b-(d*w))*x)) ((a+(c*w))-((b+(d*w))*w)) ((a-(c*w))-((b-(d*w))*x))"
	has(t, "Fast of four", l, e, fast)
	l, e = transform.FastBack(one, v[:1])
	has(t, "FastBack of one", l, e, "(a*1)")
	l, e = transform.FastBack(two, v)
	has(t, "FastBack of two", l, e, "((a+(b*v'))*1/2) ((a-(b*v'))*1/2)")
	l, e = transform.FastBack(four, w)
	conj = strings.Fields(filled(fast, "w", "w'", "x", "x'"))
	has(t, "FastBack of four", l, e, "("+strings.Join(conj, "*1/4) (")+"*1/4)")
}

// named returns the list of a name with the numbers from 0 to n - 1 behind it.
func named(name string, n int) []step {
	l := make([]step, n)
	for k := range l {
		l[k] = step(name + strconv.Itoa(k))
	}
	return l
}

// TestStepsOfHalves is for Fast of more elements: it compares with that of the halves.
func TestStepsOfHalves(t *testing.T) {
	for n := 8; n <= 64; n *= 2 {
		x, w := named("x", n), named("w", n)
		var halves [2][]step
		var fewer []step
		for k := range n {
			halves[k%2] = append(halves[k%2], x[k])
			if k%2 == 0 {
				fewer = append(fewer, w[k])
			}
		}
		even, _ := transform.Fast(halves[0], fewer)
		odd, _ := transform.Fast(halves[1], fewer)
		want := make([]step, n)
		for k := range n / 2 {
			want[k] = even[k].Add(odd[k].Mul(w[k]))
			want[k+n/2] = even[k].Sub(odd[k].Mul(w[k]))
		}
		l, e := transform.Fast(x, w)
		like(t, "Fast", l, e, want)
		conj := zip(w, w, func(a, _ step) step { return a.Conj() })
		want, _ = transform.Fast(x, conj)
		for k := range want {
			want[k] = want[k].Mul(step("1/" + strconv.Itoa(n)))
		}
		l, e = transform.FastBack(x, w)
		like(t, "FastBack", l, e, want)
	}
}

func TestStepsOfLists(t *testing.T) {
	abc := steps("a b c")
	l, e := transform.Weigh(abc, list(t, "1/2 0 -1i"))
	has(t, "Weigh", l, e, "(a*1/2) (b*0) (c*-1i)")
	l, e = transform.Times(abc, steps("x y z"))
	has(t, "Times", l, e, "(a*x) (b*y) (c*z)")
	l, e = transform.Cut(steps("a b c d"), api.Gate{From: 3, Count: 2})
	has(t, "Cut", l, e, "a 0 0 d")
	l, e = transform.Gated(steps("a b"), steps("v w"), api.Gate{From: 1, Count: 1})
	has(t, "Gated", l, e, "(0+(((a-(b*v'))*1/2)*v)) (0-(((a-(b*v'))*1/2)*v))")
	at, e := transform.Touched(steps("a 0 b c"), api.Gate{Count: 1}, 2)
	if positions(at) != "2 3" || e != api.OK {
		t.Errorf("Touched: %v, %d", at, e)
	}
	l, e = transform.Shift(abc, 4)
	has(t, "Shift", l, e, "c a b")
	l, e = transform.Convolve(abc, steps("x y z"))
	has(t, "Convolve", l, e, "(((a*x)+(b*z))+(c*y)) (((a*y)+(b*x))+(c*z)) (((a*z)+(b*y))+(c*x))")
	l, e = transform.Steps(abc)
	has(t, "Steps", l, e, "a (a+b) ((a+b)+c)")
	x, e := transform.Energy(abc)
	has(t, "Energy", []step{x}, e, "(((a*a')+(b*b'))+(c*c'))")
	x, e = transform.Energy(abc[:1])
	has(t, "Energy of one", []step{x}, e, "(a*a')")
	x, e = transform.Energy[step](nil)
	has(t, "Energy of none", []step{x}, e, "0")
	l, e = transform.Extend(abc, "d")
	has(t, "Extend", l, e, "d a b c 0 c' b' a'")
	x, e = transform.Zero(abc)
	has(t, "Zero", []step{x}, e, "(((a+(a-b))+(a+(a-b))')*1/2)")
}

func TestStepsOfGrids(t *testing.T) {
	g := made(t, [][]step{steps("a b"), steps("c d")})
	h, e := transform.ForwardGrid(g, steps("w x"), steps("y z"))
	sameGrid(t, "ForwardGrid", h, e, made(t, [][]step{
		steps("((a+(b*w))+((c+(d*w))*y)) ((a-(b*w))+((c-(d*w))*y))"),
		steps("((a+(b*w))-((c+(d*w))*y)) ((a-(b*w))-((c-(d*w))*y))"),
	}))
	h, e = transform.BackGrid(g, steps("w x"), steps("y z"))
	p, q, r, s := "((a+(b*w'))*1/2)", "((a-(b*w'))*1/2)", "((c+(d*w'))*1/2)", "((c-(d*w'))*1/2)"
	sameGrid(t, "BackGrid", h, e, made(t, [][]step{
		steps(filled("((P+(R*y'))*1/2) ((Q+(S*y'))*1/2)", "P", p, "Q", q, "R", r, "S", s)),
		steps(filled("((P-(R*y'))*1/2) ((Q-(S*y'))*1/2)", "P", p, "Q", q, "R", r, "S", s)),
	}))
	one := made(t, [][]step{steps("a")})
	h, e = transform.BackGrid(one, steps("w"), steps("y"))
	sameGrid(t, "BackGrid of one cell", h, e, made(t, [][]step{steps("((a*1)*1)")}))
}
