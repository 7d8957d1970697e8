package record_test

import (
	"math/big"
	"strconv"
	"strings"
	"testing"

	"waveport/api"
	"waveport/num"
	"waveport/record"
)

// table returns a table, from the texts of its numbers.
func table(t testing.TB, z, freqs string, s ...string) record.Table {
	t.Helper()
	out := record.Table{Z: parse(t, z), Freqs: list(t, freqs)}
	for _, m := range s {
		out.S = append(out.S, matrix(t, m))
	}
	return out
}

// decimal returns a real number that has a decimal text.
func (d *dice) decimal(t testing.TB) num.Num {
	x := parse(t, "1e-"+strconv.Itoa(d.below(65)))
	if d.below(3) == 0 {
		x = num.Int(1)
	}
	return x.Mul(num.Int(int64(d.next()) >> d.below(64)))
}

// decimals returns a table whose numbers have decimal texts.
func (d *dice) decimals(t testing.TB, points, ports int) record.Table {
	square := func(x num.Num) num.Num { return x.Mul(x).Floor(0).Add(num.Int(1)) }
	out := record.Table{Z: square(d.decimal(t)), Freqs: d.freqs(points)}
	for i := range out.Freqs {
		m := d.matrix(ports, ports)
		for _, row := range m {
			for k := range row {
				row[k] = d.decimal(t).Add(d.decimal(t).Mul(parse(t, "1i")))
			}
		}
		out.S = append(out.S, m)
		out.Freqs[i] = num.Int(int64(i + 1)).Add(parse(t, "1e-"+strconv.Itoa(d.below(64)+1)))
	}
	return out
}

// badTables are tables that are not valid.
func badTables(t *testing.T) []record.Table {
	d := dice(19)
	var out []record.Table
	bad := func(change func(x *record.Table)) {
		x := d.decimals(t, 3, 2)
		change(&x)
		out = append(out, x)
	}
	for _, l := range badFreqs(t) {
		x := record.Table{Z: num.Int(50), Freqs: l}
		for range l {
			x.S = append(x.S, d.matrix(1, 1))
		}
		out = append(out, x)
	}
	for _, z := range list(t, "0 -50 50i 50+1i") {
		bad(func(x *record.Table) { x.Z = z })
	}
	bad(func(x *record.Table) { x.S = x.S[:2] })
	bad(func(x *record.Table) { x.S = append(x.S, d.matrix(2, 2)) })
	bad(func(x *record.Table) { x.S = nil })
	bad(func(x *record.Table) { x.Freqs = nil })
	bad(func(x *record.Table) { x.S[0] = d.matrix(1, 1) })
	bad(func(x *record.Table) { x.S[2] = d.matrix(3, 3) })
	bad(func(x *record.Table) { x.S[0] = d.matrix(2, 3) })
	bad(func(x *record.Table) { x.S[1] = d.matrix(3, 2) })
	bad(func(x *record.Table) { x.S[1][0] = nil })
	bad(func(x *record.Table) { x.S[2] = nil })
	bad(func(x *record.Table) { x.S = make([][][]num.Num, 3) })
	bad(func(x *record.Table) { x.S = [][][]num.Num{d.matrix(9, 9), d.matrix(9, 9), d.matrix(9, 9)} })
	bad(func(x *record.Table) { *x = record.Table{} })
	return out
}

func TestValidTable(t *testing.T) {
	d := dice(20)
	for _, c := range [][2]int{{1, 1}, {1, 8}, {3, 3}, {1024, 1}} {
		if x := d.decimals(t, c[0], c[1]); !record.ValidTable(x) {
			t.Errorf("%d points, %d ports: not valid", c[0], c[1])
		}
	}
	for i, x := range badTables(t) {
		s, e := record.WriteTouch(x)
		u, f := record.WriteList(x)
		if record.ValidTable(x) || s != "" || u != "" || e != api.ErrArg || f != api.ErrArg {
			t.Errorf("table %d: %q, %d, %q, %d", i, s, e, u, f)
		}
	}
}

func TestWriteTouch(t *testing.T) {
	for i, c := range []struct {
		table record.Table
		want  string
		e     api.Errno
	}{
		{table(t, "50", "1000", "1/2-2i"), "# HZ S RI R 50\n1000 0.5 -2\n", api.OK},
		{table(t, "1/8", "1/4 10", "-1/2", "-1/20-15/2i"), "# HZ S RI R 0.125\n0.25 -0.5 0\n10 -0.05 -7.5\n", api.OK},
		{table(t, "37.50", "100 2e2", "-1.05+10i", "-10.5-100i"), "# HZ S RI R 37.5\n100 -1.05 10\n200 -10.5 -100\n", api.OK},
		{table(t, "50", "5", "1 2i;3 4i"), "# HZ S RI R 50\n5 1 0 3 0 0 2 0 4\n", api.OK},
		{table(t, "50", "5", "1 2 3;4 5 6;7 8 9i"), "# HZ S RI R 50\n5 1 0 2 0 3 0\n4 0 5 0 6 0\n7 0 8 0 0 9\n", api.OK},
		{table(t, "50", "5 6", "1 2 3 4;5 6 7 8;1 1 1 1;1 1 1 1i", "0 0 0 0;0 0 0 0;0 0 0 0;2 3 4 5"), "# HZ S RI R 50\n" +
			"5 1 0 2 0 3 0 4 0\n5 0 6 0 7 0 8 0\n1 0 1 0 1 0 1 0\n1 0 1 0 1 0 0 1\n" +
			"6 0 0 0 0 0 0 0 0\n0 0 0 0 0 0 0 0\n0 0 0 0 0 0 0 0\n2 0 3 0 4 0 5 0\n", api.OK},
		{table(t, "50", "1", "1 2 3 4 5;0 0 0 0 0;0 0 0 0 0;0 0 0 0 0;9 8 7 6 5"), "# HZ S RI R 50\n1 1 0 2 0 3 0 4 0\n5 0\n" + strings.Repeat("0 0 0 0 0 0 0 0\n0 0\n", 3) + "9 0 8 0 7 0 6 0\n5 0\n", api.OK},
		{table(t, "50", "1", "1e-64"), "# HZ S RI R 50\n1 0." + strings.Repeat("0", 63) + "1 0\n", api.OK},
		{table(t, "50", "1", "-1e-64i"), "# HZ S RI R 50\n1 0 -0." + strings.Repeat("0", 63) + "1\n", api.OK},
		{table(t, "1e100", "1", "1e-65"), "", api.ErrNone},
		{table(t, "50", "1", "1e-65i"), "", api.ErrNone},
		{table(t, "50", "1", "1/3"), "", api.ErrNone},
		{table(t, "50", "1 4/3", "1", "1"), "", api.ErrNone},
		{table(t, "50/3", "1", "1"), "", api.ErrNone},
		{table(t, "50", "1", "1 2;3 4+1/7i"), "", api.ErrNone},
		{table(t, "-50", "1", "1/3"), "", api.ErrArg},
	} {
		s, e := record.WriteTouch(c.table)
		if s != c.want || e != c.e {
			t.Errorf("case %d: %q, %d, want %q, %d", i, s, e, c.want, c.e)
		}
	}
	// Many digits are no error, even if nothing reads them.
	long := record.Table{Z: num.Int(1), Freqs: counted(1), S: [][][]num.Num{{{parse(t, "1e400")}}}}
	for range 10 {
		long.S[0][0][0] = long.S[0][0][0].Mul(parse(t, "1e400"))
	}
	if s, e := record.WriteTouch(long); e != api.OK || s != "# HZ S RI R 1\n1 1"+strings.Repeat("0", 4400)+" 0\n" {
		t.Errorf("WriteTouch of 10^4400: %d", e)
	}
}

// TestDecimalTexts compares with math/big.
func TestDecimalTexts(t *testing.T) {
	d := dice(21)
	for range 300 {
		x := d.decimal(t)
		s, e := record.WriteTouch(record.Table{Z: num.Int(1), Freqs: counted(1), S: [][][]num.Num{{{x}}}})
		r, _ := new(big.Rat).SetString(x.Text())
		want := r.FloatString(64)
		want = strings.TrimRight(strings.TrimRight(want, "0"), ".")
		if e != api.OK || s != "# HZ S RI R 1\n1 "+want+" 0\n" {
			t.Errorf("decimal text of %s: %q, want %s", x.Text(), s, want)
		}
	}
}

// TestTouchFiles is P3.8 for the first dialect.
func TestTouchFiles(t *testing.T) {
	d := dice(22)
	for i := range 60 {
		x := d.decimals(t, d.below(4)+1, i%8+1)
		s, e := record.WriteTouch(x)
		if e != api.OK {
			t.Fatalf("WriteTouch: %d", e)
		}
		y, e := record.ReadTouch(s, i%8+1)
		if e != api.OK || tableText(y) != tableText(x) {
			t.Errorf("ReadTouch: %d, %s, want %s", e, tableText(y), tableText(x))
		}
		words := strings.Fields(s)
		loose := strings.Join(words[:6], " ") + "\n"
		for _, w := range words[6:] { // the words may stand in any lines
			loose += w + [5]string{" ", "\t", "\n", "\r\n", " ! 5 \n\n"}[d.below(5)]
		}
		if y, e := record.ReadTouch(loose, i%8+1); e != api.OK || tableText(y) != tableText(x) {
			t.Errorf("ReadTouch of %q: %d", loose, e)
		}
	}
}

func TestReadTouch(t *testing.T) {
	digits := strings.Repeat("1", 4096)
	longest := "# HZ S RI R 50\n1 2 3!"
	longest += strings.Repeat("x", 1<<20-len(longest))
	for i, c := range []struct {
		s     string
		ports int
		want  record.Table
	}{
		{"# HZ S RI R 50\n1000 0.5 -2\n", 1, table(t, "50", "1000", "1/2-2i")},
		{"# HZ S RI R 50\n1000 0.5 -2", 1, table(t, "50", "1000", "1/2-2i")},
		{"# KHZ S RI R 50\n1000 0.5 -2", 1, table(t, "50", "1e6", "1/2-2i")},
		{"# MHZ S RI R 50\n1e-3 0.5 -2e0", 1, table(t, "50", "1000", "1/2-2i")},
		{"# GHZ S RI R 7.5e1\n1e1 0.5 -2", 1, table(t, "75", "1e10", "1/2-2i")},
		{"! a\n\n\t \n#\tGHZ  S RI\tR 50!\n!\n1\n1 -0!5 5\n\t2 \n3e1 4 ! 5", 1, table(t, "50", "1e9 2e9", "1", "30+4i")},
		{"# HZ S RI R 50\r\n1 2\r\n3\r\n", 1, table(t, "50", "1", "2+3i")},
		{"\r\n# HZ S RI R 50\r\n1 2 3!\r", 1, table(t, "50", "1", "2+3i")},
		{"# HZ S RI R 50\n1 2 3 ! \r x\r\r\n", 1, table(t, "50", "1", "2+3i")},
		{"# HZ S RI R 50\n5 1 0 3 0 0 2 0 4\n", 2, table(t, "50", "5", "1 2i;3 4i")},
		{"# HZ S RI R 50\n5 1 0 2 0 3 0 4 0 5 0 6 0 7 0 8 0 0 9\n", 3, table(t, "50", "5", "1 2 3;4 5 6;7 8 9i")},
		{"# HZ S RI R 50\n1 " + digits + " 0", 1, table(t, "50", "1", digits)},
		{"# HZ S RI R 50\n1 0 1e400", 1, table(t, "50", "1", "1e400i")},
		{longest, 1, table(t, "50", "1", "2+3i")},
	} {
		got, e := record.ReadTouch(c.s, c.ports)
		if e != api.OK || tableText(got) != tableText(c.want) {
			t.Errorf("case %d: %d, %.200s, want %.200s", i, e, tableText(got), tableText(c.want))
		}
	}
	greatest := "# HZ S RI R 50\n"
	for k := range 1024 {
		greatest += strconv.Itoa(k+1) + " 0 0\n"
	}
	if got, e := record.ReadTouch(greatest, 1); e != api.OK || len(got.S) != 1024 {
		t.Errorf("ReadTouch of 1024 points: %d", e)
	}
	if got, e := record.ReadTouch(greatest+"1025 0 0", 1); e != api.ErrArg || !isZero(got) {
		t.Errorf("ReadTouch of 1025 points: %d", e)
	}
}

func TestReadTouchErrors(t *testing.T) {
	const head = "# HZ S RI R 50\n"
	for _, c := range []struct {
		s     string
		ports int
		e     api.Errno
	}{
		{head + "1 2 3", 0, api.ErrArg},
		{head + "1 2 3", -1, api.ErrArg},
		{head + "1 2 3", 9, api.ErrArg},
		{strings.Repeat("x", 1<<20+1), 9, api.ErrArg},
		{strings.Repeat("x", 1<<20+1), 1, api.ErrSize},
		{strings.Repeat("x", 1<<20), 1, api.ErrForm},
		{"", 1, api.ErrForm},
		{"\n! x\n", 1, api.ErrForm},
		{"1 2 3", 1, api.ErrForm},
		{"!" + head + "1 2 3", 1, api.ErrForm},
		{"# HZ S RI R\n1 2 3", 1, api.ErrForm},
		{"# HZ S RI R 50 50\n1 2 3", 1, api.ErrForm},
		{"# HZ S RI R 50 1 2 3", 1, api.ErrForm},
		{"# HZ S\nRI R 50\n1 2 3", 1, api.ErrForm},
		{"#HZ S RI R 50\n1 2 3", 1, api.ErrForm},
		{"$ HZ S RI R 50\n1 2 3", 1, api.ErrForm},
		{"# Hz S RI R 50\n1 2 3", 1, api.ErrForm},
		{"# hz S RI R 50\n1 2 3", 1, api.ErrForm},
		{"# THZ S RI R 50\n1 2 3", 1, api.ErrForm},
		{"# HZ Y RI R 50\n1 2 3", 1, api.ErrForm},
		{"# HZ S MA R 50\n1 2 3", 1, api.ErrForm},
		{"# HZ S RI Z 50\n1 2 3", 1, api.ErrForm},
		{"# HZ S RI R x\n1 2 3", 1, api.ErrForm},
		{"# HZ S RI R 50i\n1 2 3", 1, api.ErrForm},
		{"# HZ S RI R 100/2\n1 2 3", 1, api.ErrForm},
		{"# HZ S RI R +50\n1 2 3", 1, api.ErrForm},
		{"# HZ S RI R " + strings.Repeat("1", 4097) + "\n1 2 3", 1, api.ErrForm},
		{"# HZ\vS RI R 50\n1 2 3", 1, api.ErrForm},
		{"# HZ S RI R 50\r1 2 3", 1, api.ErrForm},
		{head + "1 2", 1, api.ErrForm},
		{head + "1 2 3 4", 1, api.ErrForm},
		{head + "1 2 3 4 5", 1, api.ErrForm},
		{head + "1 2 3\n2 2 3", 2, api.ErrForm},
		{head + "1 2 x", 1, api.ErrForm},
		{head + "1 2 1/2", 1, api.ErrForm},
		{head + "1 2 1/0", 1, api.ErrForm},
		{head + "1 2 3i", 1, api.ErrForm},
		{head + "1 2+3i 3", 1, api.ErrForm},
		{head + "1 2 +3", 1, api.ErrForm},
		{head + "1 2 .3", 1, api.ErrForm},
		{head + "1 2 3.", 1, api.ErrForm},
		{head + "1 2 03", 1, api.ErrForm},
		{head + "1 2 3E1", 1, api.ErrForm},
		{head + "1 2 3e401", 1, api.ErrForm},
		{head + "1 2 3e+1", 1, api.ErrForm},
		{head + "1 2 " + strings.Repeat("1", 4097), 1, api.ErrForm},
		{head + "1 2 3\r", 1, api.ErrForm},
		{head + "1 2 3\r\r\n", 1, api.ErrForm},
		{head + "1 2\r3\n", 1, api.ErrForm},
		{head + "1 2 3\r!\n", 1, api.ErrForm},
		{head + "1 2\v3\n", 1, api.ErrForm},
		{head + "1 2 3\u00a0\n", 1, api.ErrForm},
		{head + head + "1 2 3\n", 1, api.ErrForm},
		{head + "1 2 3 #\n", 1, api.ErrForm},
		{"# HZ S RI R -50\n1 2 x", 1, api.ErrForm},
		{head + "0 2 3 4", 1, api.ErrForm},
		{head, 1, api.ErrArg},
		{head + "0 2 3", 1, api.ErrArg},
		{head + "-1 2 3", 1, api.ErrArg},
		{head + "2 0 0\n1 0 0", 1, api.ErrArg},
		{head + "2 0 0\n2.0 0 0", 1, api.ErrArg},
		{"# HZ S RI R 0\n1 2 3", 1, api.ErrArg},
		{"# HZ S RI R -50\n1 2 3", 1, api.ErrArg},
	} {
		if got, e := record.ReadTouch(c.s, c.ports); e != c.e || !isZero(got) {
			t.Errorf("ReadTouch of %.60q for %d: %d, want %d", c.s, c.ports, e, c.e)
		}
	}
}
