package calibrate_test

import (
	"go/ast"
	"go/parser"
	"go/token"
	"strconv"
	"strings"
	"testing"

	"waveport/api"
	"waveport/calibrate"
	"waveport/num"
)

// words computes what formulas of the chapter say, one step after the other, until one of them does not exist.
type words[T num.Rooted[T]] struct {
	t      testing.TB
	values map[string]T
	e      api.Errno
}

func newWords[T num.Rooted[T]](t testing.TB) *words[T] {
	return &words[T]{t, map[string]T{}, api.OK}
}

// let computes formulas that are parted by semicolons, and names their values.
func (w *words[T]) let(formulas string) *words[T] {
	w.t.Helper()
	for _, s := range strings.Split(formulas, ";") {
		name, formula, _ := strings.Cut(s, "=")
		x, err := parser.ParseExpr(formula)
		if err != nil {
			w.t.Fatalf("%s: %v", formula, err)
		}
		y := w.value(x)
		if w.e == api.OK {
			w.values[strings.TrimSpace(name)] = y
		}
	}
	return w
}

// lists names the elements of lists.
func (w *words[T]) lists(names string, l []T) *words[T] {
	for i, name := range strings.Fields(names) {
		w.values[name] = l[i]
	}
	return w
}

// terms names terms.
func (w *words[T]) terms(names string, x calibrate.Terms[T]) *words[T] {
	return w.lists(names, []T{x.Directivity, x.Match, x.Tracking})
}

// matrix names the elements of a matrix by a name and their indexes.
func (w *words[T]) matrix(name string, m [][]T, e api.Errno) *words[T] {
	if w.e == api.OK {
		w.e = e
	}
	for i, row := range m {
		for k, x := range row {
			w.values[at(name, i, k)] = x
		}
	}
	return w
}

func at(name string, indexes ...int) string {
	for _, i := range indexes {
		name += strconv.Itoa(i)
	}
	return name
}

// get returns the values of names.
func (w *words[T]) get(names string) []T {
	var l []T
	for _, name := range strings.Fields(names) {
		x, ok := w.values[name]
		if !ok && w.e == api.OK {
			w.t.Fatalf("no value %s", name)
		}
		l = append(l, x)
	}
	return l
}

// square returns the matrix with so many rows whose elements have a name.
func (w *words[T]) square(name string, n int) [][]T {
	m := make([][]T, n)
	for i := range m {
		for k := range m {
			m[i] = append(m[i], w.get(at(name, i, k))...)
		}
	}
	return m
}

// stop is an error unless all is well; the first one counts.
func (w *words[T]) stop(e api.Errno) {
	if w.e == api.OK {
		w.e = e
	}
}

func (w *words[T]) value(x ast.Expr) T {
	var none T
	if w.e != api.OK {
		return none
	}
	switch x := x.(type) {
	case *ast.ParenExpr:
		return w.value(x.X)
	case *ast.Ident:
		return w.get(x.Name)[0]
	case *ast.BasicLit:
		c, _ := num.Parse(x.Value)
		return none.Of(c)
	case *ast.UnaryExpr:
		return w.value(x.X).Neg()
	case *ast.CallExpr:
		return w.called(x.Fun.(*ast.Ident).Name, w.value(x.Args[0]))
	case *ast.BinaryExpr:
		y, z := w.value(x.X), w.value(x.Y)
		if w.e == api.OK {
			return w.joined(x.Op, y, z)
		}
	}
	return none
}

func (w *words[T]) called(name string, x T) T {
	if name == "conj" {
		return x.Conj()
	}
	y, ok := x.Sqrt()
	if !ok {
		w.stop(api.ErrNone)
	}
	return y
}

func (w *words[T]) joined(op token.Token, x, y T) T {
	switch op {
	case token.ADD:
		return x.Add(y)
	case token.SUB:
		return x.Sub(y)
	case token.MUL:
		return x.Mul(y)
	}
	q, e := x.Div(y)
	w.stop(e)
	return q
}

// all returns the elements of a matrix, or nothing with an error.
func all[T any](m [][]T, e api.Errno) ([]T, api.Errno) {
	if e != api.OK {
		return nil, e
	}
	var l []T
	for _, row := range m {
		l = append(l, row...)
	}
	return l, api.OK
}

// ofSet returns the numbers of a calibration, or nothing with an error.
func ofSet[T num.Field[T]](c calibrate.Set[T], e api.Errno) ([]T, api.Errno) {
	if e != api.OK {
		return nil, e
	}
	var l []T
	for _, p := range c.Ports {
		l = append(l, p.Directivity, p.Match, p.Tracking)
	}
	return append(l, c.Enter...), api.OK
}

// ofSix returns the numbers of the terms of both directions, or nothing with an error.
func ofSix[T num.Field[T]](x [2]calibrate.Six[T], e api.Errno) ([]T, api.Errno) {
	if e != api.OK {
		return nil, e
	}
	var l []T
	for _, y := range x {
		l = append(l, y.One.Directivity, y.One.Match, y.One.Tracking, y.Leakage, y.LoadMatch, y.Transfer)
	}
	return l, api.OK
}

// result returns the values of names, or nothing with an error.
func (w *words[T]) result(names string) ([]T, api.Errno) {
	if w.e != api.OK {
		return nil, w.e
	}
	return w.get(names), api.OK
}

// The functions below compute in the chapter's words what the functions of the package with the same names return.

func raw1[T num.Rooted[T]](t testing.TB, x calibrate.Terms[T], g T) ([]T, api.Errno) {
	return newWords[T](t).terms("d s r", x).lists("g", []T{g}).let("n = 1 - s*g; x = d + (r*g)/n").result("x")
}

func correct1[T num.Rooted[T]](t testing.TB, x calibrate.Terms[T], m T) ([]T, api.Errno) {
	return newWords[T](t).terms("d s r", x).lists("m", []T{m}).let("x = m - d; n = r + s*x; g = x/n").result("g")
}

func solve1[T num.Rooted[T]](t testing.TB, ideal, raw [3]T) ([]T, api.Errno) {
	w := newWords[T](t).lists("g0 g1 g2", ideal[:]).lists("m0 m1 m2", raw[:])
	w.let("a00 = 1; a01 = m0*g0; a02 = g0; a10 = 1; a11 = m1*g1; a12 = g1; a20 = 1; a21 = m2*g2; a22 = g2")
	x, e := num.Solve(w.square("a", 3), raw[:])
	if e != api.OK {
		return nil, api.ErrSingular
	}
	w.lists("d s x", x).let("r = x + d*s")
	if !w.get("r")[0].Clear() {
		return nil, api.ErrSingular
	}
	return w.result("d s r")
}

// portWords names the terms and factors of a calibration: d0, m0, r0, e0 and so on.
func portWords[T num.Rooted[T]](t testing.TB, c calibrate.Set[T]) *words[T] {
	w := newWords[T](t)
	for i, p := range c.Ports {
		w.terms(at("d", i)+" "+at("m", i)+" "+at("r", i), p).lists(at("e", i), c.Enter[i:i+1])
	}
	return w
}

// each lets a formula for each pair of ports, with i and k as its indexes; diagonal is that for equal ones.
func (w *words[T]) each(n int, diagonal, other string) *words[T] {
	for i := range n {
		for k := range n {
			formula := other
			if i == k {
				formula = diagonal
			}
			w.let(strings.NewReplacer("I", strconv.Itoa(i), "K", strconv.Itoa(k)).Replace(formula))
		}
	}
	return w
}

func rawMatrix[T num.Rooted[T]](t testing.TB, c calibrate.Set[T], s [][]T) ([]T, api.Errno) {
	n := len(s)
	w := portWords(t, c).matrix("s", s, api.OK).each(n, "aIK = 1 - mI*sIK", "aIK = 0 - mI*sIK")
	inverse, e := num.Inverse(w.square("a", n))
	w.stop(e)
	product, _ := num.Product(s, inverse)
	w.matrix("n", product, api.OK)
	for i := range n {
		w.let(at("t", i) + " = " + at("r", i) + "/" + at("e", i))
	}
	w.each(n, "xIK = dI + (tI*nIK)*eK", "xIK = (tI*nIK)*eK")
	return all(w.square("x", n), w.e)
}

func correctMatrix[T num.Rooted[T]](t testing.TB, c calibrate.Set[T], raw [][]T) ([]T, api.Errno) {
	n := len(raw)
	w := portWords(t, c).matrix("y", raw, api.OK)
	for i := range n {
		w.let(at("t", i) + " = " + at("r", i) + "/" + at("e", i))
	}
	w.each(n, "xIK = ((yIK - dI)/tI)/eK", "xIK = (yIK/tI)/eK").each(n, "aIK = 1 + mI*xIK", "aIK = 0 + mI*xIK")
	if w.e != api.OK {
		return nil, w.e
	}
	inverse, e := num.Inverse(w.square("a", n))
	if e != api.OK {
		return nil, e
	}
	return all(num.Product(w.square("x", n), inverse))
}

// thruWords are the steps of one thru from a port with the factor e to one without.
func thruWords[T num.Rooted[T]](t testing.TB, p, q calibrate.Terms[T], e, raw T, back bool) (T, api.Errno) {
	w := newWords[T](t).terms("dp s rp", p).terms("dq t rq", q).lists("e v", []T{e, raw}).let("w = v*(1 - s*t)")
	if back {
		w.let("x = (e*rp)/w")
	} else {
		w.let("x = (e*rq)/w")
	}
	return w.values["x"], w.e
}

func unknownThru[T num.Rooted[T]](t testing.TB, ports [2]calibrate.Terms[T], raw [2][2]T, estimate T) ([]T, api.Errno) {
	w := newWords[T](t).terms("d0 m0 t", ports[0]).terms("d1 m1 r", ports[1]).matrix("x", rows(raw), api.OK).lists("estimate", []T{estimate})
	w.let("q = (x01*r)/(x10*t)").let("one = 1; e = sqrt(q)")
	if w.e != api.OK {
		return nil, w.e
	}
	s, e := calibrate.Correct(calibrate.Set[T]{Ports: ports[:], Enter: w.get("one e")}, rows(raw))
	w.matrix("s", s, e).let("z = s10*conj(estimate); iz = 1i*z")
	switch w.side("iz") {
	case -1:
		w.let("e = -e")
	case 0:
		w.stop(api.ErrRoot)
	}
	return w.result("d0 m0 t d1 m1 r one e")
}

// side returns the Side of a value.
func (w *words[T]) side(name string) int {
	return w.get(name)[0].Side()
}

func lineReflect[T num.Rooted[T]](t testing.TB, l calibrate.Lines[T], estimate T) ([]T, api.Errno) {
	w := newWords[T](t).lists("estimate v w", []T{estimate, l.Reflect[0], l.Reflect[1]})
	const chain = "c00 = -(m00*m11 - m01*m10)/m10; c01 = m00/m10; c10 = -m11/m10; c11 = 1/m10"
	thru := w.matrix("m", rows(l.Thru), api.OK).let(chain+"; thru10 = m10").square("c", 2)
	line := w.matrix("m", rows(l.Line), api.OK).let(chain).square("c", 2)
	if w.e != api.OK {
		return nil, w.e
	}
	inverse, e := num.Inverse(thru)
	q, _ := num.Product(line, inverse)
	w.matrix("q", q, e).let("t = q00 + q11; p = q00*q11 - q01*q10; h = sqrt(t*t - 4*p); a = (t + h)/2; b = (t - h)/2")
	switch {
	case w.side("a") == -1 && w.side("b") == 1:
		w.let("y = a; z = b")
	case w.side("a") == 1 && w.side("b") == -1:
		w.let("y = b; z = a")
	default:
		w.stop(api.ErrRoot)
	}
	w.let("d = q01/(z - q00); f = q10/(q11 - y); x00 = 1; x01 = d; x10 = -f; x11 = 1")
	if w.e != api.OK {
		return nil, w.e
	}
	inverse, e = num.Inverse(w.square("x", 2))
	n, _ := num.Product(inverse, thru)
	w.matrix("n", n, e).let("c = -n10/n11; e = n01/n00; v = (v - d)/(1 + f*v); w = (w - c)/(1 + e*w)")
	w.let("a = sqrt((v*n00)/(w*n11)); g = v/a; side = 1i*(g*conj(estimate))")
	switch w.side("side") {
	case -1:
		w.let("a = -a; g = -g")
	case 0:
		w.stop(api.ErrRoot)
	}
	w.let("m = f*a; r0 = a + d*m; b = n00/(a*n11); k = e*b; r1 = b + k*c; e0 = 1; e1 = r1/(thru10*(1 - m*k))")
	return w.result("d m r0 c k r1 e0 e1 y g")
}

// directions names the terms of both directions, with the letters for the first and the second one.
func directions[T num.Rooted[T]](t testing.TB, x [2]calibrate.Six[T]) *words[T] {
	w := newWords[T](t)
	for i, y := range x {
		names := strings.ReplaceAll("dI sI rI", "I", strconv.Itoa(i))
		w.terms(names, y.One).lists(strings.ReplaceAll("xI lI tI", "I", strconv.Itoa(i)), []T{y.Leakage, y.LoadMatch, y.Transfer})
	}
	return w
}

func twelve[T num.Rooted[T]](t testing.TB, ports [2]calibrate.Terms[T], thru [2][2]T, leakage [2]T) ([]T, api.Errno) {
	w := newWords[T](t).terms("d0 s0 r0", ports[0]).terms("d1 s1 r1", ports[1]).matrix("m", rows(thru), api.OK).lists("x0 x1", leakage[:])
	for i := range ports {
		formulas := "y = mII - dI; lI = y/(rI + sI*y); tI = (mKI - xI)*(1 - sI*lI)"
		w.let(strings.NewReplacer("I", strconv.Itoa(i), "K", strconv.Itoa(1-i)).Replace(formulas))
	}
	return w.result("d0 s0 r0 x0 l0 t0 d1 s1 r1 x1 l1 t1")
}

func rawTwelve[T num.Rooted[T]](t testing.TB, x [2]calibrate.Six[T], s [2][2]T) ([]T, api.Errno) {
	w := directions(t, x).matrix("s", rows(s), api.OK)
	for i := range x {
		formulas := "D = sII*sKK - sIK*sKI; n = ((1 - sI*sII) - lI*sKK) + (sI*lI)*D; mII = dI + (rI*(sII - lI*D))/n; mKI = xI + (tI*sKI)/n"
		w.let(strings.NewReplacer("I", strconv.Itoa(i), "K", strconv.Itoa(1-i)).Replace(formulas))
	}
	return w.result("m00 m01 m10 m11")
}

func correctTwelve[T num.Rooted[T]](t testing.TB, x [2]calibrate.Six[T], raw [2][2]T) ([]T, api.Errno) {
	w := directions(t, x).matrix("m", rows(raw), api.OK)
	w.let("p = (m00 - d0)/r0; q = (m10 - x0)/t0; u = (m11 - d1)/r1; v = (m01 - x1)/t1; s = s0; l = l0; t = s1; k = l1")
	w.let("g = 1 + p*s; h = 1 + u*t; w = q*v; n = g*h - w*(l*k)")
	w.let("y00 = (p*h - l*w)/n; y10 = (q*(1 + u*(t - l)))/n; y01 = (v*(1 + p*(s - k)))/n; y11 = (u*g - k*w)/n")
	return w.result("y00 y01 y10 y11")
}
