package num_test

import (
	"math/big"
	"strings"
	"testing"

	"waveport/api"
	"waveport/num"
)

func TestParse(t *testing.T) {
	for s, want := range map[string]string{
		"0": "0", "-0": "0", "-0-0i": "0", "0i": "0", "0/7": "0", "0.000": "0", "-0e5": "0",
		"7": "7", "-7": "-7", "10": "10", "1i": "1i", "-1i": "-1i", "2i": "2i",
		"6/4": "3/2", "-6/4i": "-3/2i", "5e-3": "1/200", "5e0": "5", "5e-0": "5", "-0.50i": "-1/2i", "1.25": "5/4", "0.05": "1/20",
		"2e2": "200", "1.5e1": "15", "1.5e-1": "3/20", "0.001e3": "1", "12.34e-10": "617/500000000000",
		"1+1i": "1+1i", "1-1i": "1-1i", "-1-1i": "-1-1i", "1/2-3/4i": "1/2-3/4i", "0.1+1e1i": "1/10+10i", "1e-1-1e-1i": "1/10-1/10i", "1e2-3i": "100-3i",
		"0+2i": "2i", "2-0i": "2", "2+0.0e7i": "2", "100/10+20/10i": "10+2i",
	} {
		if x, e := num.Parse(s); x.Text() != want || e != api.OK {
			t.Errorf("Parse(%q): %s, %d", s, x.Text(), e)
		}
	}
	ten := "1" + strings.Repeat("0", 400)
	for s, want := range map[string]string{"1e400": ten, "1e-400": "1/" + ten, "0.1e400": ten[:400], "1.0e-400i": "1/" + ten + "i"} {
		if x, e := num.Parse(s); x.Text() != want || e != api.OK {
			t.Errorf("Parse(%q): %s, %d", s, x.Text(), e)
		}
	}
}

func TestParseErrors(t *testing.T) {
	forms := []string{
		"", " ", "-", "+", "i", "-i", "+1", "+1i", "--1", "01", "-01", "00", "1 ", " 1", "1 i", "1 + 1i", "1\n", "1\x00", "１", "½", "1,5",
		".5", "1.", "1.i", "-.5", "1..2", "1.2.3", "1/", "/2", "1/02", "1/-2", "1/+2", "1/2/3", "1/2.5", "1.5/2", "1/2e3", "1e3/2", "1/i", "1/2e3i",
		"1e", "1e-", "1e+1", "1e401", "1e-401", "1e05", "1e00", "1e-05", "1e1000", "1e99999999999999999999", "1e1.5", "1e1e1", "1E5", "e5", "1.e5", "1ei",
		"1+2", "1-2", "1+i", "1-i", "1+", "1-", "1+2i3", "1+2i+3i", "1i+2", "2i+1", "2i2i", "1i1", "1ii", "1+-2i", "1--2i", "1-+2i", "1++2i", "1+2 i", "1+02i", "1+2.i",
		"1/0+2", "1/0+", "1/0x", "1/00", "x1/0", "1/0e1", "1j", "0x10", "1_000", "inf", "NaN",
	}
	for _, s := range forms {
		if x, e := num.Parse(s); x.Clear() || e != api.ErrForm {
			t.Errorf("Parse(%q): %s, %d", s, x.Text(), e)
		}
	}
	for _, s := range []string{"1/0", "-1/0", "0/0", "1/0i", "1/0+2/0i", "1+2/0i", "1/0+2i", "5e3-1/0i"} {
		if x, e := num.Parse(s); x.Clear() || e != api.ErrZero {
			t.Errorf("Parse(%q): %s, %d", s, x.Text(), e)
		}
	}
	for _, s := range []string{strings.Repeat("1", 4097), strings.Repeat("x", 4097), "1/" + strings.Repeat("0", 4095), strings.Repeat("0", 5000)} {
		if x, e := num.Parse(s); x.Clear() || e != api.ErrSize {
			t.Errorf("Parse of %d bytes: %d", len(s), e)
		}
	}
	if x, e := num.Parse(strings.Repeat("x", 4096)); x.Clear() || e != api.ErrForm {
		t.Errorf("Parse of 4096 letters: %d", e)
	}
}

func TestParseLongest(t *testing.T) {
	digits := strings.Repeat("1234567890", 410)
	for _, s := range []string{digits[:4096], "-" + digits[:4095], digits[:4095] + "i", "1/" + digits[:4094], "0." + digits[:4094], digits[:4091] + "e-400"} {
		x, e := num.Parse(s)
		want, _ := new(big.Rat).SetString(strings.TrimSuffix(s, "i"))
		got := value(t, x.Add(x.Mul(parse(t, "-1i")))) // its real part is x, whether x is real or imaginary
		if e != api.OK || got.re.Cmp(want) != 0 {
			t.Errorf("Parse of %s..: %d", s[:10], e)
		}
	}
}

func TestText(t *testing.T) {
	for want, x := range map[string][3]int64{
		"0": {0, 0, 3}, "-3": {-6, 0, 2}, "7/4": {7, 0, 4}, "-7/4": {7, 0, -4}, "1i": {0, 1, 1}, "-1i": {0, -1, 1}, "5/3i": {0, 5, 3},
		"3/4-1/2i": {3, -2, 4}, "-1+1/2i": {-2, 1, 2}, "1/2+1i": {1, 2, 2}, "1000000000": {1000000000, 0, 1}, "1000000001/1000000000i": {0, 1000000001, 1000000000},
	} {
		if n, _ := num.New(x[0], x[1], x[2]); n.Text() != want {
			t.Errorf("%s instead of %s", n.Text(), want)
		}
	}
}

// TestTextAndBack is P1.4.
func TestTextAndBack(t *testing.T) {
	d := dice(6)
	for i := range 600 {
		p := d.pair(20 + i*5)
		x := number(t, p)
		y, e := num.Parse(x.Text())
		if e != api.OK || !y.Same(x) || y.Text() != x.Text() || x.Text() != p.text() {
			t.Errorf("%s: %s, %d", x.Text(), y.Text(), e)
		}
		z := x.Add(d.small())
		if (z.Text() == x.Text()) != z.Same(x) {
			t.Errorf("texts of %s and %s", x.Text(), z.Text())
		}
	}
	long := num.Int(7)
	for range 13 {
		long = long.Mul(long)
	}
	if _, e := num.Parse(long.Text()); len(long.Text()) <= 4096 || e != api.ErrSize {
		t.Errorf("Parse of the text of 7^8192, of %d bytes: %d", len(long.Text()), e)
	}
}
