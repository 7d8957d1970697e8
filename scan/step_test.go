package scan_test

import (
	"slices"
	"testing"

	"waveport/api"
	"waveport/num"
	"waveport/scan"
	"waveport/transform"
)

// The tests of this file are about R9: over boxes, the steps determine the corners.

// step is a number type that writes down the steps.
type step string

func (x step) Of(y num.Num) step { return step(y.Text()) }
func (x step) Add(y step) step   { return "(" + x + "+" + y + ")" }
func (x step) Sub(y step) step   { return "(" + x + "-" + y + ")" }
func (x step) Mul(y step) step   { return "(" + x + "*" + y + ")" }
func (x step) Neg() step         { return "neg" + x }
func (x step) Conj() step        { return x + "'" }
func (x step) Clear() bool       { return x != "0" }
func (x step) Same(y step) bool  { return x == y }
func (x step) Div(y step) (step, api.Errno) {
	if y == "0" {
		return "", api.ErrZero
	}
	return "(" + x + "/" + y + ")", api.OK
}

func TestStepsOfLines(t *testing.T) {
	ticks := track(t, "0 0,10 10")
	l := []scan.Sample[step]{{Time: num.Int(1), Value: "a"}, {Time: num.Int(4), Value: "b"}, {Time: num.Int(6), Value: "c"}}
	v, missing, e := scan.Line(ticks, l, num.Int(0), num.Int(1), 8)
	want := []step{"0", "a", "(a+((b-a)*1/3))", "(a+((b-a)*2/3))", "b", "(b+((c-b)*1/2))", "c", "0"}
	if !slices.Equal(v, want) || !slices.Equal(missing, []int{0, 7}) || e != api.OK {
		t.Errorf("Line: %v, %v, %d", v, missing, e)
	}
	v, missing, e = scan.Line(ticks, l, num.Int(12), num.Int(-1), 2)
	if !slices.Equal(v, []step{"0", "0"}) || !slices.Equal(missing, []int{0, 1}) || e != api.OK {
		t.Errorf("Line beyond: %v, %v, %d", v, missing, e)
	}
}

// namedFactors returns factors with names.
func namedFactors(name string, n int) []step {
	l := make([]step, n)
	for k := range l {
		l[k] = step(name + string(rune('0'+k)))
	}
	return l
}

func TestStepsOfFields(t *testing.T) {
	for _, c := range []struct{ keep string }{{"x"}, {"."}, {"xx"}, {".x"}, {"x;."}, {"x..x;.xx."}, {"xx;x.;.x;.."}} {
		keep := marked(t, c.keep)
		rows, cols := keep.Size()
		g, weights := named(t, "g", rows, cols), named(t, "k", rows, cols)
		w, v := namedFactors("w", cols), namedFactors("v", rows)
		modes, _ := transform.ForwardGrid(g, w, v)
		choose := func(f func(m, k step) step) transform.Grid[step] {
			var out [][]step
			for i, row := range cells(modes) {
				out = append(out, nil)
				for j, m := range row {
					k, _ := weights.At(i, j)
					x := f(m, k)
					if kept, _ := keep.At(i, j); !kept {
						x = "0"
					}
					out[i] = append(out[i], x)
				}
			}
			back, _ := transform.BackGrid(made(t, out), w, v)
			return back
		}
		h, e := scan.Carry(g, w, v, weights, keep)
		sameGrid(t, "Carry", h, e, choose(func(m, k step) step { return "(" + m + "*" + k + ")" }))
		h, e = scan.Recover(g, w, v, weights, keep)
		sameGrid(t, "Recover", h, e, choose(func(m, k step) step { return "(" + m + "/" + k + ")" }))
		want := step("0")
		for i, row := range cells(modes) {
			for j, m := range row {
				if kept, _ := keep.At(i, j); !kept {
					want = "(" + want + "+(" + m + "*" + m + "'))"
				}
			}
		}
		want = "(" + want + "*" + step(fraction(1, rows*cols).Text()) + ")"
		if x, e := scan.LeftOut(g, w, v, keep); x != want || e != api.OK {
			t.Errorf("LeftOut of %s: %s, %d, want %s", c.keep, x, e, want)
		}
	}
}

func TestStepsOfCircular(t *testing.T) {
	r, l, e := scan.Circular(named(t, "x", 2, 3), named(t, "y", 2, 3))
	want := func(sign string) transform.Grid[step] {
		return filled(t, 2, 3, func(i, j int) step {
			at := string(rune('0'+i)) + string(rune('0'+j))
			return step("((x" + at + sign + "(1i*y" + at + "))*1/2)")
		})
	}
	sameGrid(t, "Circular", r, e, want("+"))
	sameGrid(t, "Circular", l, e, want("-"))
}

// odd is a step that can be divided by all but "dull", although "dull" is Clear and "faint" is not.
type odd struct{ step }

func (x odd) Of(y num.Num) odd { return odd{x.step.Of(y)} }
func (x odd) Add(y odd) odd    { return odd{x.step.Add(y.step)} }
func (x odd) Sub(y odd) odd    { return odd{x.step.Sub(y.step)} }
func (x odd) Mul(y odd) odd    { return odd{x.step.Mul(y.step)} }
func (x odd) Neg() odd         { return odd{x.step.Neg()} }
func (x odd) Conj() odd        { return odd{x.step.Conj()} }
func (x odd) Same(y odd) bool  { return x == y }
func (x odd) Clear() bool      { return x.step != "faint" }
func (x odd) Div(y odd) (odd, api.Errno) {
	if y.step == "dull" {
		return x, api.ErrZero
	}
	return odd{"(" + x.step + "/" + y.step + ")"}, api.OK
}

// TestDivisions has an ErrZero of a division, and a weight that is not Clear although it divides.
func TestDivisions(t *testing.T) {
	one := func(s step) transform.Grid[odd] { return made(t, [][]odd{{{s}}}) }
	w, v := []odd{{"w"}}, []odd{{"v"}}
	for _, s := range []step{"dull", "faint"} {
		g, e := scan.Recover(one("a"), w, v, one(s), marked(t, "x"))
		noGrid(t, "Recover", g, e, api.ErrZero)
		g, e = scan.Recover(one("a"), w, v, one(s), marked(t, "."))
		sameGrid(t, "Recover", g, e, one("((0*1)*1)"))
	}
	g, e := scan.Recover(one("a"), w, v, one("k"), marked(t, "x"))
	sameGrid(t, "Recover", g, e, one("(((a/k)*1)*1)"))
}
