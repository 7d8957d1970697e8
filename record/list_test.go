package record_test

import (
	"strconv"
	"strings"
	"testing"

	"waveport/api"
	"waveport/num"
	"waveport/record"
)

// sumLine returns the last line of a list with this text ahead of it.
func sumLine(s string) string {
	digits := strconv.FormatUint(uint64(record.Sum([]byte(s)))|1<<16, 16)
	return "sum," + digits[1:] + "\n"
}

func TestWriteList(t *testing.T) {
	for i, c := range []struct {
		table record.Table
		want  string
	}{
		{table(t, "50", "1000", "1/2-2i"), "z,50\n1000,1,1,1/2-2i\n"},
		{table(t, "75/2", "1/3 4e3", "0 1i;-1/7 2", "1 2;3 4-4i"), "z,75/2\n1/3,1,1,0\n1/3,1,2,1i\n1/3,2,1,-1/7\n1/3,2,2,2\n4000,1,1,1\n4000,1,2,2\n4000,2,1,3\n4000,2,2,4-4i\n"},
		{table(t, "50", "1 2", "0", "0"), "z,50\n1,1,1,0\n2,1,1,0\n"},
	} {
		if s, e := record.WriteList(c.table); e != api.OK || s != c.want+sumLine(c.want) {
			t.Errorf("case %d: %q, %d, want %q", i, s, e, c.want)
		}
	}
	// All check sums have four digits.
	short := 0
	for k := range 300 {
		s, _ := record.WriteList(table(t, "50", strconv.Itoa(k+1), "0"))
		if strings.Contains(s, "sum,0") {
			short++
		}
		if _, e := record.ReadList(s); e != api.OK {
			t.Errorf("ReadList of %q: %d", s, e)
		}
	}
	if short == 0 {
		t.Error("no check sum began with 0")
	}
}

// TestLongList has texts of MaxFile bytes, and of one more.
func TestLongList(t *testing.T) {
	x := record.Table{Z: num.Int(1), Freqs: counted(1), S: [][][]num.Num{make([][]num.Num, 8)}}
	for i := range 8 {
		x.S[0][i] = make([]num.Num, 8)
		for k := range 8 {
			x.S[0][i][k] = parse(t, strings.Repeat("1", 4000))
		}
	}
	for k := 1; k < 4; k++ {
		x.Freqs, x.S = append(x.Freqs, num.Int(int64(k+1))), append(x.S, num.Lift[num.Num](x.S[0]))
	}
	// 4 lines and 255 elements leave so many bytes for the first element.
	left := 1<<20 - 4 - 9 - 256*7 - 255*4000
	for more, want := range []api.Errno{api.OK, api.ErrSize} {
		value := num.Int(0)
		for range (left + more) / 400 {
			value = value.Mul(parse(t, "1e400")).Add(parse(t, strings.Repeat("2", 400)))
		}
		rest := (left + more) % 400
		value = value.Mul(parse(t, "1e"+strconv.Itoa(rest))).Add(parse(t, strings.Repeat("2", rest)))
		x.S[0][0][0] = value
		s, e := record.WriteList(x)
		if e != want || e == api.OK && len(s) != 1<<20 || e != api.OK && s != "" {
			t.Errorf("a text of %d bytes: %d, %d bytes", 1<<20+more, e, len(s))
		}
		if e == api.OK { // an element is too long to be read
			if _, e := record.ReadList(s); e != api.ErrForm {
				t.Errorf("ReadList: %d", e)
			}
		}
	}
}

// TestListFiles is P3.8 for the second dialect.
func TestListFiles(t *testing.T) {
	d := dice(23)
	for i := range 80 {
		x := record.Table{Z: d.freqs(1)[0], Freqs: d.freqs(i/8 + 1)}
		for range x.Freqs {
			x.S = append(x.S, d.matrix(i%8+1, i%8+1))
		}
		s, e := record.WriteList(x)
		y, f := record.ReadList(s)
		if e != api.OK || f != api.OK || tableText(y) != tableText(x) {
			t.Errorf("table %d: %d, %d, %s, want %s", i, e, f, tableText(y), tableText(x))
		}
	}
}

// TestListBits changes each bit of two texts.
func TestListBits(t *testing.T) {
	d := dice(24)
	for _, x := range []record.Table{
		table(t, "50", "1000", "1/2-2i"),
		{Z: num.Int(50), Freqs: d.freqs(2), S: [][][]num.Num{d.matrix(3, 3), d.matrix(3, 3)}},
	} {
		s, _ := record.WriteList(x)
		for k := range 8 * len(s) {
			b := []byte(s)
			b[k/8] ^= 1 << (k % 8)
			want := api.ErrSum
			if at := k/8 - len(s); at == -1 || -10 <= at && at < -5 || at >= -5 && !strings.Contains("0123456789abcdef", string(b[k/8:k/8+1])) {
				want = api.ErrForm
			}
			if y, e := record.ReadList(string(b)); e != want || !isZero(y) {
				t.Errorf("ReadList with bit %d changed: %q, %d, want %d", k, b, e, want)
			}
		}
	}
}

func TestReadList(t *testing.T) {
	for _, c := range []struct {
		body string
		want record.Table
		e    api.Errno
	}{
		{"z,50\n1000,1,1,1/2-2i\n", table(t, "50", "1000", "1/2-2i"), api.OK},
		{"z,5e1\n1.0e3,1,1,0.5-4/2i\n", table(t, "50", "1000", "1/2-2i"), api.OK},
		{"z,50\n1e3,1,1,1\n1000,1,2,2\n2000/2,2,1,3\n1000.0,2,2,4\n", table(t, "50", "1000", "1 2;3 4"), api.OK},
		{"z,50\n1,1,1,1\n2,1,1,2\n", table(t, "50", "1 2", "1", "2"), api.OK},
		{"z,50\n1,1,1," + strings.Repeat("1", 4096) + "\n", table(t, "50", "1", strings.Repeat("1", 4096)), api.OK},
		{"z,50\n", record.Table{}, api.ErrArg},
		{"z,0\n1,1,1,2\n", record.Table{}, api.ErrArg},
		{"z,-50\n1,1,1,2\n", record.Table{}, api.ErrArg},
		{"z,50i\n1,1,1,2\n", record.Table{}, api.ErrArg},
		{"z,50\n0,1,1,2\n", record.Table{}, api.ErrArg},
		{"z,50\n-1,1,1,2\n", record.Table{}, api.ErrArg},
		{"z,50\n1i,1,1,2\n", record.Table{}, api.ErrArg},
		{"z,50\n1,1,1,2\n1,1,1,3\n", record.Table{}, api.ErrArg},
		{"z,50\n2,1,1,2\n1,1,1,3\n", record.Table{}, api.ErrArg},
		{"z,0\n1,1,1,x\n", record.Table{}, api.ErrForm},
		{"", record.Table{}, api.ErrForm},
		{"\n", record.Table{}, api.ErrForm},
		{"z,50", record.Table{}, api.ErrForm},
		{"z,50\n1,1,1,2", record.Table{}, api.ErrForm},
		{"z,50\n\n", record.Table{}, api.ErrForm},
		{"\nz,50\n1,1,1,2\n", record.Table{}, api.ErrForm},
		{"z,50\n\n1,1,1,2\n", record.Table{}, api.ErrForm},
		{"50\n1,1,1,2\n", record.Table{}, api.ErrForm},
		{"1,1,1,2\n", record.Table{}, api.ErrForm},
		{"1,1,1,2\nz,50\n", record.Table{}, api.ErrForm},
		{"Z,50\n1,1,1,2\n", record.Table{}, api.ErrForm},
		{"z, 50\n1,1,1,2\n", record.Table{}, api.ErrForm},
		{"z,\n1,1,1,2\n", record.Table{}, api.ErrForm},
		{"z,50,\n1,1,1,2\n", record.Table{}, api.ErrForm},
		{"z,50/0\n1,1,1,2\n", record.Table{}, api.ErrForm},
		{"z,50\nz,50\n1,1,1,2\n", record.Table{}, api.ErrForm},
		{"z,50\r\n1,1,1,2\r\n", record.Table{}, api.ErrForm},
		{"z,50\n1,1,1\n", record.Table{}, api.ErrForm},
		{"z,50\n1,1,1,2,\n", record.Table{}, api.ErrForm},
		{"z,50\n1,1,1,2,3\n", record.Table{}, api.ErrForm},
		{"z,50\n1,1,1,\n", record.Table{}, api.ErrForm},
		{"z,50\n,1,1,2\n", record.Table{}, api.ErrForm},
		{"z,50\n1,,1,2\n", record.Table{}, api.ErrForm},
		{"z,50\n1,1,1, 2\n", record.Table{}, api.ErrForm},
		{"z,50\n1,1,1,1/0\n", record.Table{}, api.ErrForm},
		{"z,50\n1/0,1,1,1\n", record.Table{}, api.ErrForm},
		{"z,50\n1,1,1,+2\n", record.Table{}, api.ErrForm},
		{"z,50\n1,1,1," + strings.Repeat("1", 4097) + "\n", record.Table{}, api.ErrForm},
		{"z,50\n1,01,1,2\n", record.Table{}, api.ErrForm},
		{"z,50\n1,1,01,2\n", record.Table{}, api.ErrForm},
		{"z,50\n1,1.0,1,2\n", record.Table{}, api.ErrForm},
		{"z,50\n1,+1,1,2\n", record.Table{}, api.ErrForm},
		{"z,50\n1,0,0,2\n", record.Table{}, api.ErrForm},
		{"z,50\n1,0,1,2\n", record.Table{}, api.ErrForm},
		{"z,50\n1,1,0,2\n", record.Table{}, api.ErrForm},
		{"z,50\n1,2,1,2\n", record.Table{}, api.ErrForm},
		{"z,50\n1,1,2,2\n", record.Table{}, api.ErrForm},
		{"z,50\n1,257,1,2\n", record.Table{}, api.ErrForm},
		{"z,50\n1,1,1,2\n1,1,2,2\n", record.Table{}, api.ErrForm},
		{"z,50\n1,1,1,2\n1,1,2,2\n1,2,1,2\n", record.Table{}, api.ErrForm},
		{"z,50\n1,1,1,2\n1,2,1,2\n1,1,2,2\n1,2,2,2\n", record.Table{}, api.ErrForm},
		{"z,50\n1,1,1,2\n1,1,2,2\n1,2,2,2\n1,2,1,2\n", record.Table{}, api.ErrForm},
		{"z,50\n1,1,1,2\n1,2,2,2\n1,2,1,2\n1,2,2,2\n", record.Table{}, api.ErrForm},
		{"z,50\n1,1,1,2\n1,1,2,2\n1,3,1,2\n1,2,2,2\n", record.Table{}, api.ErrForm},
		{"z,50\n1,1,1,2\n1,1,2,2\n1,2,1,2\n1,2,2,2\n1,2,2,2\n", record.Table{}, api.ErrForm},
		{"z,50\n1,1,1,2\n1,1,2,2\n1,2,1,2\n1,2,2,2\n1,2,3,2\n", record.Table{}, api.ErrForm},
		{"z,50\n1,1,1,2\n1,1,2,2\n1,2,1,2\n2,2,2,2\n", record.Table{}, api.ErrForm},
		{"z,50\n1,1,1,2\n2,1,2,2\n2,2,1,2\n2,2,2,2\n", record.Table{}, api.ErrForm},
		{"z,50\n1,1,1,2\n2,1,1,2\n2,1,2,0\n2,2,1,0\n2,2,2,0\n", record.Table{}, api.ErrForm},
		{"z,50\n2,1,1,2\n2,1,2,0\n2,2,1,0\n2,2,2,0\n3,1,1,2\n", record.Table{}, api.ErrForm},
	} {
		got, e := record.ReadList(c.body + sumLine(c.body))
		if e != c.e || tableText(got) != tableText(c.want) || e != api.OK && !isZero(got) {
			t.Errorf("ReadList of %.60q: %.100s, %d, want %d", c.body, tableText(got), e, c.e)
		}
	}
}

// TestNinePorts has a matrix with one row more than there may be.
func TestNinePorts(t *testing.T) {
	for n := 8; n <= 9; n++ {
		body := "z,50\n"
		for i := range n {
			for k := range n {
				body += "1," + strconv.Itoa(i+1) + "," + strconv.Itoa(k+1) + ",2\n"
			}
		}
		got, e := record.ReadList(body + sumLine(body))
		if n == 8 && (e != api.OK || len(got.S) != 1 || len(got.S[0]) != 8) || n == 9 && (e != api.ErrForm || !isZero(got)) {
			t.Errorf("ReadList of %d rows: %d", n, e)
		}
	}
	body := "z,50\n"
	for k := range 1025 {
		body += strconv.Itoa(k+1) + ",1,1,2\n"
	}
	if got, e := record.ReadList(body + sumLine(body)); e != api.ErrArg || !isZero(got) {
		t.Errorf("ReadList of 1025 points: %d", e)
	}
	body = body[:len(body)-len("1025,1,1,2\n")]
	if got, e := record.ReadList(body + sumLine(body)); e != api.OK || len(got.S) != 1024 {
		t.Errorf("ReadList of 1024 points: %d", e)
	}
}

func TestReadListSums(t *testing.T) {
	const body = "z,50\n1,1,1,2\n"
	good := sumLine(body)
	for _, c := range []struct {
		s string
		e api.Errno
	}{
		{body + good, api.OK},
		{body + "sum,0000\n", api.ErrSum},
		{"x\n" + "sum,0000\n", api.ErrSum},
		{"\nsum,0000\n", api.ErrSum},
		{body + good + good, api.ErrSum},
		{body + good + sumLine(body+good), api.ErrForm},
		{body, api.ErrForm},
		{"", api.ErrForm},
		{"\n", api.ErrForm},
		{"sum,ffff\n", api.ErrForm}, // the check sum of no bytes
		{"z,50" + sumLine("z,50"), api.ErrForm},
		{body + strings.TrimSuffix(good, "\n"), api.ErrForm},
		{body + good + "\n", api.ErrForm},
		{body + " " + good, api.ErrForm},
		{body + "sum,00g0\n", api.ErrForm},
		{body + "sum,000\n", api.ErrForm},
		{body + "sum,00000\n", api.ErrForm},
		{body + "sum, 000\n", api.ErrForm},
		{body + "sum,00A0\n", api.ErrForm},
		{body + "sum,0-10\n", api.ErrForm},
		{body + "Sum,0000\n", api.ErrForm},
		{body + "sum;0000\n", api.ErrForm},
		{body + strings.ToUpper(good), api.ErrForm},
		{body + strings.TrimSuffix(good, "\n") + "\r\n", api.ErrForm},
		{strings.Repeat("x", 1<<20), api.ErrForm},
		{strings.Repeat("x", 1<<20+1), api.ErrSize},
		{strings.Repeat("x", 1<<20-9) + "\nsum,0000\n", api.ErrSize},
		{strings.Repeat("x", 1<<20-10) + "\nsum,0000\n", api.ErrSum},
	} {
		if got, e := record.ReadList(c.s); e != c.e || e != api.OK && !isZero(got) {
			t.Errorf("ReadList of %.60q: %d, want %d", c.s, e, c.e)
		}
	}
	// A check sum with a letter in capitals is none.
	for k := range 50 {
		text := "z,50\n" + strconv.Itoa(k+1) + ",1,1,2\n"
		sum := sumLine(text)
		if upper := "sum," + strings.ToUpper(sum[4:]); upper != sum {
			if _, e := record.ReadList(text + upper); e != api.ErrForm {
				t.Errorf("ReadList with %q: %d", upper, e)
			}
		}
	}
}
