package record_test

import (
	"testing"

	"waveport/api"
	"waveport/record"
)

// TestAnyText is P1 and P2 for texts that are put together of pieces: what is read is valid, and is written and read again.
func TestAnyText(t *testing.T) {
	d := dice(25)
	pieces := []string{"1", "2", "0", "-", ".", "e", "/", "i", ",", ",1,1,", "\n", "\r\n", " ", "\t", "!", "z,50\n", "1,1,1,2\n", "2,1,1,1i\n", "# HZ S RI R 50\n", "# GHZ S RI R 7\n", "1 2 3\n", "2 0 0\n", "S", "#", "\xff", "\x00", "é"}
	read := 0
	for range 20000 {
		var s string
		switch d.below(4) {
		case 0:
			s = "z,50\n"
		case 1:
			s = "# HZ S RI R 50\n"
		}
		for range d.below(4) {
			s += pieces[d.below(len(pieces))]
		}
		if d.below(2) == 0 && len(s) > 0 && s[len(s)-1] != '\n' {
			s += "\n"
		}
		x, e := record.ReadTouch(s, d.below(2)+1)
		y, f := record.ReadList(s + sumLine(s))
		if e != api.OK && !isZero(x) || f != api.OK && !isZero(y) {
			t.Errorf("texts of %q: a table with an error", s)
		}
		if e == api.OK && !record.ValidTable(x) || f == api.OK && !record.ValidTable(y) {
			t.Fatalf("texts of %q: a table that is not valid", s)
		}
		if e == api.OK {
			read++
			again, _ := record.WriteTouch(x)
			if z, e := record.ReadTouch(again, len(x.S[0])); e != api.OK || tableText(z) != tableText(x) {
				t.Errorf("ReadTouch of %q: %s, then %d, %s", s, tableText(x), e, tableText(z))
			}
		}
		if f == api.OK {
			read++
			again, _ := record.WriteList(y)
			if z, e := record.ReadList(again); e != api.OK || tableText(z) != tableText(y) {
				t.Errorf("ReadList of %q: %s, then %d, %s", s, tableText(y), e, tableText(z))
			}
		}
	}
	if read < 100 {
		t.Errorf("%d tables were read", read)
	}
}
