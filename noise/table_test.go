package noise_test

import (
	"strings"
	"testing"

	"waveport/api"
	"waveport/noise"
	"waveport/num"
)

// entries returns the table with a text: words FREQ:VALUE.
func entries(t *testing.T, s string) []noise.Entry {
	t.Helper()
	var l []noise.Entry
	for _, w := range strings.Fields(s) {
		f, v, _ := strings.Cut(w, ":")
		l = append(l, noise.Entry{Freq: parse(t, f), Value: parse(t, v)})
	}
	return l
}

func TestLookup(t *testing.T) {
	for _, c := range []struct {
		table, f, want string
		e              api.Errno
	}{
		{"1:10 3:4 4:4", "1", "10", api.OK}, {"1:10 3:4 4:4", "3/2", "17/2", api.OK}, {"1:10 3:4 4:4", "3", "4", api.OK}, {"1:10 3:4 4:4", "7/2", "4", api.OK}, {"1:10 3:4 4:4", "4", "4", api.OK},
		{"1/3:-1 1/2:2", "2/5", "1/5", api.OK}, {"1/3:-1 1/2:2", "1/3", "-1", api.OK}, {"2:0 5:3 9:1", "7", "2", api.OK}, {"2:0 5:3 9:1", "4", "2", api.OK},
		{"5:7", "5", "7", api.OK}, {"5:7", "4", "0", api.ErrNone}, {"5:7", "6", "0", api.ErrNone}, {"5:7", "0", "0", api.ErrNone}, {"5:7", "-5", "0", api.ErrNone}, {"5:7", "5+1i", "0", api.ErrArg}, {"5:7", "9i", "0", api.ErrArg},
		{"1:10 3:4", "999/1000", "0", api.ErrNone}, {"1:10 3:4", "3001/1000", "0", api.ErrNone},
		{"", "1", "0", api.ErrSize}, {"", "1i", "0", api.ErrSize},
		{"1:2 1:2", "1", "0", api.ErrOrder}, {"3:2 1:2", "9", "0", api.ErrOrder}, {"1:2 2:2 2:3", "1i", "0", api.ErrOrder}, {"1:2 1:2 3:1i", "1", "0", api.ErrOrder},
		{"0:2", "1", "0", api.ErrArg}, {"-1:2 -2:2", "1", "0", api.ErrArg}, {"1i:2", "1", "0", api.ErrArg}, {"1:2 2+1i:3", "1", "0", api.ErrArg}, {"1:2i", "1", "0", api.ErrArg}, {"1:2 3:4 1:1i", "1", "0", api.ErrArg}, {"1:2i 1:2", "9", "0", api.ErrArg}, {"2:1 1:1+1i", "9", "0", api.ErrArg},
	} {
		x, e := noise.Lookup(entries(t, c.table), parse(t, c.f))
		result(t, "Lookup of "+c.f+" in "+c.table, x, e, c.want, c.e)
	}
	x, e := noise.Lookup([]noise.Entry{}, num.Int(1))
	result(t, "Lookup in an empty table", x, e, "0", api.ErrSize)
}

func TestLookupInLongTables(t *testing.T) {
	l := make([]noise.Entry, 1025)
	for i := range l {
		l[i] = noise.Entry{Freq: num.Int(int64(3*i + 1)), Value: num.Int(int64(i * i))}
	}
	for f := 1; f <= 3*1023+1; f += 1 + f%5 {
		i, rest := (f-1)/3, (f-1)%3
		want := num.Int(int64(i * i)).Add(quotient(num.Int(int64(rest*(2*i+1))), num.Int(3)))
		x, e := noise.Lookup(l[:1024], num.Int(int64(f)))
		result(t, "Lookup in 1024 entries", x, e, want.Text(), api.OK)
	}
	x, e := noise.Lookup(l, num.Int(1))
	result(t, "Lookup in 1025 entries", x, e, "0", api.ErrSize)
	l[0].Freq = num.Int(0)
	x, e = noise.Lookup(l, num.Int(1))
	result(t, "Lookup in 1025 bad entries", x, e, "0", api.ErrSize)
}
