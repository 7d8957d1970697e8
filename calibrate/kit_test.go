package calibrate_test

import (
	"strconv"
	"strings"
	"testing"

	"waveport/api"
	"waveport/calibrate"
	"waveport/num"
)

// noKit reports whether a kit is the zero value.
func noKit(k calibrate.Kit) bool {
	return k.Name == "" && k.Version == 0 && len(k.Standards) == 0
}

// kitText tells kits apart.
func kitText(k calibrate.Kit) string {
	out := k.Name + " " + strconv.Itoa(k.Version)
	for _, s := range k.Standards {
		out += "|" + s.Name + " " + strconv.Itoa(s.Kind) + " " + s.Connector + " " + listText([]num.Num{s.Resistance, s.Fringe, s.Delay, s.Loss})
		out += " " + strconv.Itoa(s.Sections) + " " + strconv.Itoa(s.Uses) + " " + strconv.Itoa(s.Most)
		for _, p := range s.Points {
			out += ";" + p.Frequency.Text() + " " + p.Reflection.Text()
		}
	}
	return out
}

const demo = "kit demo.kit-1 1000000\nshort S N 1/2 0 0 1 0 2\nopen O N -1/3 1/7 16 1/2 1 1\nload L_1 K 5/4 1 1/10 2 3/4 1 9\nknown D 3.5 1/9 3 1 2 65535\npoint -1 0\npoint 3/2 1-1/2i\nload M K 0 0 0 0 1 0 1\nknown E N 0 0 1/3 0 7\npoint 0 2i\n"

// demoKit returns the kit with the text demo.
func demoKit(t *testing.T) calibrate.Kit {
	n := func(s string) num.Num { return parse(t, s) }
	return calibrate.Kit{Name: "demo.kit-1", Version: 1000000, Standards: []calibrate.Standard{
		{Name: "S", Kind: calibrate.Short, Connector: "N", Fringe: n("1/2"), Loss: n("1"), Most: 2},
		{Name: "O", Kind: calibrate.Open, Connector: "N", Fringe: n("-1/3"), Delay: n("1/7"), Sections: 16, Loss: n("1/2"), Uses: 1, Most: 1},
		{Name: "L_1", Kind: calibrate.Load, Connector: "K", Resistance: n("5/4"), Fringe: n("1"), Delay: n("1/10"), Sections: 2, Loss: n("3/4"), Uses: 1, Most: 9},
		{Name: "D", Kind: calibrate.Known, Connector: "3.5", Delay: n("1/9"), Sections: 3, Loss: n("1"), Uses: 2, Most: 65535,
			Points: []calibrate.Point{{Frequency: n("-1")}, {Frequency: n("3/2"), Reflection: n("1-1/2i")}}},
		{Name: "M", Kind: calibrate.Load, Connector: "K", Loss: n("1"), Most: 1},
		{Name: "E", Kind: calibrate.Known, Connector: "N", Loss: n("1/3"), Most: 7, Points: []calibrate.Point{{Reflection: n("2i")}}},
	}}
}

// parses tests that a text is that of a kit.
func parses(t *testing.T, what, text string, want calibrate.Kit) {
	t.Helper()
	k, line, e := calibrate.ParseKit(text)
	if e != api.OK || line != 0 || kitText(k) != kitText(want) {
		t.Errorf("%s: %s, %d, %d, want %s", what, kitText(k), line, e, kitText(want))
	}
}

func TestKitText(t *testing.T) {
	k := demoKit(t)
	if s, e := calibrate.PrintKit(k); s != demo || e != api.OK {
		t.Errorf("PrintKit: %q, %d", s, e)
	}
	parses(t, "demo", demo, k)
	parses(t, "without the last line feed", strings.TrimSuffix(demo, "\n"), k)
	parses(t, "empty lines", "\n\n"+strings.ReplaceAll(demo, "\n", "\n\n")+"\n", k)
	parses(t, "remarks", "# kit\n"+strings.ReplaceAll(demo, "\n", "\n#point 1 1\n# \n"), k)
	parses(t, "a remark at the end", demo+"#", k)
	other := "kit demo.kit-1 1000000\nshort S N 0.50 -0 0 1e0 0 2\nopen O N -1/3 2/14 16 5e-1 1 1\nload L_1 K 1.25 10e-1 0.1 2 0.75 1 9\nknown D 3.5 1/9 3 1 2 65535\npoint -1 0\npoint 1.5 1-0.5i\nload M K 0 0 0 0 1 0 1\nknown E N 0 0 1/3 0 7\npoint 0 0+2i\n"
	parses(t, "other forms of numbers", other, k)
	parses(t, "no standards", "kit k 1", calibrate.Kit{Name: "k", Version: 1})
	if s, e := calibrate.PrintKit(calibrate.Kit{Name: "k", Version: 1, Standards: []calibrate.Standard{}}); s != "kit k 1\n" || e != api.OK {
		t.Errorf("PrintKit without standards: %q, %d", s, e)
	}
}

func TestMalformedLines(t *testing.T) {
	const head = "kit k 1\n"
	const short = "short S N 0 0 0 1 0 2\n"
	const known = "known D N 0 0 1 0 2\n"
	for _, c := range []struct {
		text string
		line int
	}{
		{"", 0}, {"\n", 0}, {"# kit k 1\n\n#", 0},
		{" ", 1}, {"kit", 1}, {"kit k", 1}, {"kit k 1 ", 1}, {" kit k 1", 1}, {"kit  k 1", 1}, {"kit k 1 1", 1}, {"kit k 1\r\n", 1}, {"kit\tk 1", 1},
		{"Kit k 1", 1}, {"kit k 01", 1}, {"kit k -1", 1}, {"kit k +1", 1}, {"kit k 1.0", 1}, {"kit k 1000000000", 1}, {"kit k x", 1}, {"kit k 1/1", 1}, {"kit k  ", 1}, {"kit  1", 1},
		{"\n#\nkit k", 3}, {"x\nkit k 1", 1}, {short + head, 1}, {"point 1 1\n" + head, 1}, {"\n" + short, 2},
		{head + head, 2}, {head + short + head, 3}, {head + "#\n" + head, 3},
		{head + "point 1 1", 2}, {head + short + "point 1 1", 3}, {head + known + "point 1 1\n" + short + "point 1 1", 5},
		{head + known + "point 1 1\npoint 2", 4}, {head + known + "point", 3}, {head + known + "point 1 1 1", 3}, {head + known + "point 1 1 ", 3}, {head + known + "point  1 1", 3},
		{head + "short S N 0 0 0 1 0", 2}, {head + "short S N 0 0 0 1 0 2 3", 2}, {head + "short S N 0 0 0 1 0 ", 2}, {head + "short", 2}, {head + "shorts S N 0 0 0 1 0 2", 2},
		{head + "open S N 0 0 0 1 0", 2}, {head + "open S N 0 0 0 0 1 0 2", 2}, {head + "open S  0 0 0 1 0 2", 2},
		{head + "load S N 0 0 0 1 0 2", 2}, {head + "load S N 0 0 0 0 0 1 0 2", 2}, {head + "known S N 0 0 0 1 0 2", 2}, {head + "known S N 0 1 0 2", 2},
		{head + "short S N 1/0 0 0 1 0 2", 2}, {head + "short S N x 0 0 1 0 2", 2}, {head + "short S N 0 01 0 1 0 2", 2}, {head + "short S N 0 0 0 .5 0 2", 2}, {head + "short S N 0 0 0 1e401 0 2", 2},
		{head + "short S N 0 0 00 1 0 2", 2}, {head + "short S N 0 0 -1 1 0 2", 2}, {head + "short S N 0 0 0/1 1 0 2", 2}, {head + "short S N 0 0 0 1 0x0 2", 2}, {head + "short S N 0 0 0 1 0 2e0", 2}, {head + "short S N 0 0 0 1 0 0000000002", 2},
		{head + "load S N i 0 0 0 1 0 2", 2}, {head + known + "point 1/0 1", 3}, {head + known + "point 1 1+i", 3}, {head + known + "point 1 1 + 1i", 3},
		{head + "short S N " + strings.Repeat("1", 4097) + " 0 0 1 0 2", 2},
		{head + short + " # no remark", 3}, {head + short + " ", 3}, {head + short + "\r\n", 3}, {head + "SHORT S N 0 0 0 1 0 2", 2},
		{head + short + "\xff", 3}, {head + short + "\x00", 3},
	} {
		k, line, e := calibrate.ParseKit(c.text)
		if line != c.line || e != api.ErrForm || !noKit(k) {
			t.Errorf("ParseKit(%q): %s, line %d, %d", c.text, kitText(k), line, e)
		}
	}
}

// TestReadKitErrors has texts with the right form of kits with an error.
func TestReadKitErrors(t *testing.T) {
	many := "kit k 1\n"
	for i := range 33 {
		many += "short S" + strconv.Itoa(i) + " N 0 0 0 1 0 2\n"
	}
	long := "kit k 1\nknown D N 0 0 1 0 2\n"
	for i := range 1025 {
		long += "point " + strconv.Itoa(i) + " 0\n"
	}
	for _, c := range []struct {
		text string
		want api.Errno
	}{
		{"kit k 0", api.ErrArg}, {"kit k 1000001", api.ErrArg}, {"kit k 999999999", api.ErrArg}, {"kit k/ 1", api.ErrArg}, {"kit k\t 1", api.ErrArg}, {"kit # 1", api.ErrArg},
		{"kit " + strings.Repeat("k", 25) + " 1", api.ErrArg}, {"kit " + strings.Repeat("k", 24) + " 1", api.OK},
		{"kit k 1\nshort \xff N 0 0 0 1 0 2", api.ErrArg}, {"kit k 1\nshort S N\r 0 0 0 1 0 2", api.ErrArg},
		{"kit k 1\nshort S N 1i 0 0 1 0 2", api.ErrArg}, {"kit k 1\nshort S N 0 0 17 1 0 2", api.ErrArg}, {"kit k 1\nshort S N 0 1 0 1 0 2", api.ErrArg},
		{"kit k 1\nload S N -1 0 0 0 1 0 2", api.ErrArg}, {"kit k 1\nshort S N 0 0 0 1 3 2", api.ErrArg}, {"kit k 1\nshort S N 0 0 0 1 0 65536", api.ErrArg},
		{"kit k 1\nknown D N 0 0 1 0 2", api.ErrArg}, {"kit k 1\nknown D N 0 0 1 0 2\npoint 1 0\npoint 1 0", api.ErrOrder}, {"kit k 1\nknown D N 0 0 1 0 2\npoint 1i 0", api.ErrArg},
		{"kit k 1\nshort S N 0 0 0 1 0 2\nopen S K 0 0 0 1 0 2", api.ErrTwice}, {"kit k 1\nshort S N 0 0 0 1 0 2\nopen S K 0 0 0 2 0 2", api.ErrArg},
		{many, api.ErrSize}, {strings.TrimSuffix(many, "short S32 N 0 0 0 1 0 2\n"), api.OK},
		{long, api.ErrSize}, {strings.TrimSuffix(long, "point 1024 0\n"), api.OK},
	} {
		k, line, e := calibrate.ParseKit(c.text)
		if line != 0 || e != c.want || (e != api.OK) != noKit(k) {
			t.Errorf("ParseKit(%.60q): %s, line %d, %d, want %d", c.text, kitText(k), line, e, c.want)
		}
	}
}

func TestLongText(t *testing.T) {
	filled := demo + "#" + strings.Repeat("x", 65536-len(demo)-1)
	parses(t, "the longest text", filled, demoKit(t))
	for _, s := range []string{filled + "x", "kit" + filled} {
		k, line, e := calibrate.ParseKit(s)
		if line != 0 || e != api.ErrSize || !noKit(k) {
			t.Errorf("a longer text: %s, line %d, %d", kitText(k), line, e)
		}
	}
	const digits = 4096
	k, line, e := calibrate.ParseKit("kit k 1\nshort S N " + strings.Repeat("1", digits) + " 0 0 1 0 2")
	if e != api.OK || line != 0 || len(k.Standards) != 1 || len(k.Standards[0].Fringe.Text()) != digits {
		t.Errorf("the longest number: line %d, %d", line, e)
	}
}

// kit returns any kit without an error.
func (d *dice) kit() calibrate.Kit {
	k := calibrate.Kit{Name: "kit" + strconv.Itoa(d.below(9)), Version: d.below(1000000) + 1}
	for i := range d.below(7) {
		k.Standards = append(k.Standards, d.standard("s"+strconv.Itoa(i)))
	}
	return k
}

// TestKitsReturn is P6.8 for texts.
func TestKitsReturn(t *testing.T) {
	d := dice(3)
	for range 200 {
		k := d.kit()
		s, e := calibrate.PrintKit(k)
		if e != api.OK || !strings.HasSuffix(s, "\n") {
			t.Fatalf("PrintKit: %q, %d", s, e)
		}
		parses(t, "the text of a kit", s, k)
	}
}

// TestChangedTexts changes bytes of a text: what is read all the same is that which its own text says, and a malformed line is the changed one, or one that depends on it.
func TestChangedTexts(t *testing.T) {
	d := dice(4)
	counts := map[api.Errno]int{}
	for range 4000 {
		b := []byte(demo)
		at := d.below(len(b))
		b[at] = []byte("0123456789/-.ei #\n\rkpx\xff")[d.below(23)]
		if d.below(3) == 0 {
			b = append(b[:at], b[at+1:]...)
		}
		k, line, e := calibrate.ParseKit(string(b))
		counts[e]++
		if e != api.OK {
			changed := 1 + strings.Count(demo[:at], "\n")
			if !noKit(k) || (line != 0) != (e == api.ErrForm) || line != 0 && (line < changed || line > changed+2) {
				t.Errorf("ParseKit(%q): %s, line %d, %d", b, kitText(k), line, e)
			}
			continue
		}
		s, e := calibrate.PrintKit(k)
		if e != api.OK {
			t.Errorf("PrintKit of %q: %d", b, e)
		}
		parses(t, "the text of what was read", s, k)
	}
	for _, e := range []api.Errno{api.OK, api.ErrForm, api.ErrArg} {
		if counts[e] < 100 {
			t.Errorf("%d of 4000 texts have the error %d", counts[e], e)
		}
	}
}

func TestKitErrors(t *testing.T) {
	other := func(name string) calibrate.Standard {
		s := ordinary(calibrate.Short)
		s.Name = name
		return s
	}
	worn, bare := other("w"), ordinary(calibrate.Known)
	worn.Uses = 6
	bare.Points = points(1025)
	bare.Name = "a"
	var many []calibrate.Standard
	for i := range 32 {
		many = append(many, other(strconv.Itoa(i)))
	}
	for i, c := range []struct {
		name      string
		version   int
		standards []calibrate.Standard
		want      api.Errno
	}{
		{"k", 1, nil, api.OK}, {"k", 1000000, many, api.OK},
		{"", 1, nil, api.ErrArg}, {"a b", 1, nil, api.ErrArg}, {strings.Repeat("k", 25), 1, nil, api.ErrArg},
		{"k", 0, nil, api.ErrArg}, {"k", -1, nil, api.ErrArg}, {"k", 1000001, nil, api.ErrArg},
		{"k", 1, append(many[:32:32], other("x")), api.ErrSize}, {"k", 1, append(many[:32:32], worn), api.ErrSize}, {"k", 0, append(many[:32:32], other("x")), api.ErrArg},
		{"k", 1, []calibrate.Standard{other("a"), other("b"), other("a")}, api.ErrTwice},
		{"k", 1, []calibrate.Standard{other("a"), other("a"), worn}, api.ErrTwice},
		{"k", 1, []calibrate.Standard{other("a"), worn, other("a")}, api.ErrArg},
		{"k", 1, []calibrate.Standard{other("a"), bare}, api.ErrSize},
		{"k", 1, []calibrate.Standard{other("a"), other("A")}, api.OK},
	} {
		k := calibrate.Kit{Name: c.name, Version: c.version, Standards: c.standards}
		s, e := calibrate.PrintKit(k)
		code(t, "PrintKit, case "+strconv.Itoa(i), s == "", e, c.want)
		used, e := calibrate.Connect(k, nil)
		code(t, "Connect, case "+strconv.Itoa(i), noKit(used), e, c.want)
		used, e = calibrate.Connect(k, []string{"nothing"})
		if c.want == api.OK {
			c.want = api.ErrNone
		}
		code(t, "Connect of what is not there, case "+strconv.Itoa(i), noKit(used), e, c.want)
	}
}

func TestConnect(t *testing.T) {
	k := demoKit(t) // S is used 0 times of 2, O 1 of 1, L_1 1 of 9, M 0 of 1
	used, e := calibrate.Connect(k, strings.Fields("S L_1 S D L_1"))
	want := demoKit(t)
	want.Standards[0].Uses, want.Standards[2].Uses, want.Standards[3].Uses = 2, 3, 3
	if e != api.OK || kitText(used) != kitText(want) {
		t.Errorf("Connect: %s, %d, want %s", kitText(used), e, kitText(want))
	}
	if kitText(k) != kitText(demoKit(t)) {
		t.Errorf("Connect changed the kit to %s", kitText(k))
	}
	used, e = calibrate.Connect(k, nil)
	if e != api.OK || kitText(used) != kitText(k) {
		t.Errorf("Connect of nothing: %s, %d", kitText(used), e)
	}
	for _, c := range []struct {
		names string
		want  api.Errno
	}{{"O", api.ErrWorn}, {"S S S", api.ErrWorn}, {"M M", api.ErrWorn}, {"M L_1 M x", api.ErrWorn}, {"S x O", api.ErrNone}, {"S O x", api.ErrWorn}, {"s", api.ErrNone}, {"L_1 L_1 L_1 L_1 L_1 L_1 L_1 L_1", api.OK}, {"L_1 L_1 L_1 L_1 L_1 L_1 L_1 L_1 L_1", api.ErrWorn}} {
		used, e := calibrate.Connect(k, strings.Fields(c.names))
		code(t, "Connect of "+c.names, noKit(used), e, c.want)
	}
	used, e = calibrate.Connect(k, []string{""})
	code(t, "Connect of no name", noKit(used), e, api.ErrNone)
}

// TestConnectOneByOne is P6.8 for Connect.
func TestConnectOneByOne(t *testing.T) {
	d := dice(5)
	fine := 0
	for range 300 {
		k := d.kit()
		var names []string
		for range d.below(6) {
			names = append(names, "s"+strconv.Itoa(d.below(len(k.Standards)+1)))
		}
		all, e := calibrate.Connect(k, names)
		one, f := k, api.OK
		for _, name := range names {
			if f == api.OK {
				one, f = calibrate.Connect(one, []string{name})
			}
		}
		if e != f || kitText(all) != kitText(one) {
			t.Errorf("Connect of %v: %s, %d, one by one %s, %d", names, kitText(all), e, kitText(one), f)
		}
		if e == api.OK && len(names) > 1 {
			fine++
		}
	}
	if fine < 20 {
		t.Errorf("%d of 300 exist", fine)
	}
}
