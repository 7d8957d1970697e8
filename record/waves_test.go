package record_test

import (
	"testing"

	"waveport/api"
	"waveport/num"
	"waveport/record"
)

// badWaves are sweeps that are not valid.
func badWaves(t *testing.T) []record.Waves {
	d := dice(10)
	var out []record.Waves
	bad := func(change func(w *record.Waves)) {
		w := d.waves(3, 2)
		change(&w)
		out = append(out, w)
	}
	for _, l := range badFreqs(t) {
		w := d.waves(len(l), 1)
		w.Freqs = l
		out = append(out, w)
	}
	bad(func(w *record.Waves) { *w = d.waves(2, 0) })
	bad(func(w *record.Waves) { *w = d.waves(2, 9) })
	bad(func(w *record.Waves) { w.A = w.A[:2] })
	bad(func(w *record.Waves) { w.B = w.B[:2] })
	bad(func(w *record.Waves) { w.B = append(w.B, d.matrix(2, 2)) })
	bad(func(w *record.Waves) { w.Freqs = w.Freqs[:2] })
	bad(func(w *record.Waves) { w.A, w.B = nil, nil })
	bad(func(w *record.Waves) { w.A[2] = d.matrix(3, 3) })
	bad(func(w *record.Waves) { w.B[0] = d.matrix(1, 1) })
	bad(func(w *record.Waves) { w.B[1] = d.matrix(3, 2) })
	bad(func(w *record.Waves) { w.A[1] = d.matrix(2, 3) })
	bad(func(w *record.Waves) { w.A[0] = d.matrix(2, 1) })
	bad(func(w *record.Waves) { w.A[0][1] = w.A[0][1][:1] })
	bad(func(w *record.Waves) { w.B[2] = nil })
	bad(func(w *record.Waves) {
		for k := range 3 {
			w.A[k], w.B[k] = d.matrix(2, 2), d.matrix(3, 3)
		}
	})
	return append(out, record.Waves{})
}

func TestValidWaves(t *testing.T) {
	d := dice(11)
	for _, c := range [][2]int{{1, 1}, {1, 8}, {5, 3}, {1024, 1}} {
		if w := d.waves(c[0], c[1]); !record.ValidWaves(w) {
			t.Errorf("%d points, %d ports: not valid", c[0], c[1])
		}
	}
	good := d.waves(3, 2)
	for i, w := range badWaves(t) {
		if record.ValidWaves(w) {
			t.Errorf("case %d is valid", i)
		}
		a, e1 := record.Merge(w, good)
		b, e2 := record.Merge(good, w)
		c, e3 := record.Cut(w, num.Int(-100), num.Int(100000))
		r, e4 := record.Raws(w)
		k, s, over, e5 := record.Level(w, num.Int(1), 0)
		for j, e := range []api.Errno{e1, e2, e3, e4, e5} {
			if e != api.ErrArg {
				t.Errorf("case %d, function %d: %d", i, j, e)
			}
		}
		if !isZero(a) || !isZero(b) || !isZero(c) || len(r) > 0 || k != 0 || s != 0 || over {
			t.Errorf("case %d: a result with an error", i)
		}
	}
}

// thin returns a sweep with one port and these frequencies; B is the frequency, and A twice that.
func thin(freqs []num.Num) record.Waves {
	w := record.Waves{Freqs: freqs}
	for _, f := range freqs {
		w.A = append(w.A, [][]num.Num{{f.Add(f)}})
		w.B = append(w.B, [][]num.Num{{f}})
	}
	return w
}

func TestMerge(t *testing.T) {
	d := dice(12)
	for i, c := range []struct {
		v, w record.Waves
		want string // frequencies
		e    api.Errno
	}{
		{thin(list(t, "2 4 9")), thin(list(t, "1 3")), "1 2 3 4 9", api.OK},
		{thin(list(t, "1/2 1/3000000 7")[:1]), thin(list(t, "1/3")), "1/3 1/2", api.OK},
		{thin(list(t, "1 2")), thin(list(t, "3 4")), "1 2 3 4", api.OK},
		{thin(list(t, "1 2")), thin(list(t, "2")), "", api.ErrTwice},
		{thin(list(t, "2")), thin(list(t, "1 2 3")), "", api.ErrTwice},
		{thin(list(t, "1 5")), thin(list(t, "2 3 5")), "", api.ErrTwice},
		{thin(list(t, "1 5")), d.waves(3, 2), "", api.ErrSize},
		{thin(list(t, "2 1")), d.waves(3, 2), "", api.ErrArg},
		{d.waves(3, 2), thin(list(t, "2 1")), "", api.ErrArg},
		{thin(counted(1024)), thin(list(t, "1024")), "", api.ErrTwice},
		{thin(counted(1024)), thin(list(t, "1025")), "", api.ErrFull},
		{thin(list(t, "1/2")), thin(counted(1024)), "", api.ErrFull},
		{thin(list(t, "1/2")), thin(counted(1023)), "1/2 " + listText(counted(1023)), api.OK},
	} {
		got, e := record.Merge(c.v, c.w)
		if e != c.e || e == api.OK && wavesText(got) != wavesText(thin(list(t, c.want))) || e != api.OK && !isZero(got) {
			t.Errorf("case %d: %s, %d", i, wavesText(got), e)
		}
	}
	same := d.waves(2, 2)
	if _, e := record.Merge(same, same); e != api.ErrTwice {
		t.Errorf("Merge of a sweep with itself: %d", e)
	}
	other := d.waves(2, 3)
	other.Freqs = same.Freqs
	if _, e := record.Merge(same, other); e != api.ErrSize {
		t.Errorf("Merge of other ports at the same frequencies: %d", e)
	}
}

// TestMerging is P3.7.
func TestMerging(t *testing.T) {
	d := dice(13)
	for i := range 60 {
		ports := i%8 + 1
		all := d.waves(d.below(6)+2, ports)
		var v, w record.Waves
		split := d.below(len(all.Freqs)-1) + 1
		for k, f := range all.Freqs {
			to := &v
			if i%2 == 0 && k >= split || i%2 == 1 && (k == 0 || k > 1 && d.below(2) == 0) {
				to = &w
			}
			to.Freqs, to.A, to.B = append(to.Freqs, f), append(to.A, all.A[k]), append(to.B, all.B[k])
		}
		x, e := record.Merge(v, w)
		y, f := record.Merge(w, v)
		if e != api.OK || f != api.OK || wavesText(x) != wavesText(all) || wavesText(y) != wavesText(all) {
			t.Errorf("sweep %d: %d, %d, %s, %s, want %s", i, e, f, wavesText(x), wavesText(y), wavesText(all))
		}
		if i%2 == 1 {
			continue
		}
		for j, part := range []record.Waves{v, w} {
			c, e := record.Cut(x, part.Freqs[0], part.Freqs[len(part.Freqs)-1])
			if e != api.OK || wavesText(c) != wavesText(part) {
				t.Errorf("sweep %d, part %d: %d, %s, want %s", i, j, e, wavesText(c), wavesText(part))
			}
		}
	}
}

func TestCut(t *testing.T) {
	w := thin(list(t, "1 3/2 2 9"))
	for _, c := range []struct {
		lo, hi, want string
		e            api.Errno
	}{
		{"1", "9", "1 3/2 2 9", api.OK},
		{"0", "100", "1 3/2 2 9", api.OK},
		{"-5", "1", "1", api.OK},
		{"3/2", "2", "3/2 2", api.OK},
		{"1.51", "8.99", "2", api.OK},
		{"9", "9", "9", api.OK},
		{"3", "8", "", api.ErrNone},
		{"10", "20", "", api.ErrNone},
		{"-2", "0", "", api.ErrNone},
		{"2", "1", "", api.ErrNone},
		{"1+1i", "9", "", api.ErrArg},
		{"1", "9-1i", "", api.ErrArg},
		{"1i", "20", "", api.ErrArg},
	} {
		got, e := record.Cut(w, parse(t, c.lo), parse(t, c.hi))
		if e != c.e || e == api.OK && wavesText(got) != wavesText(thin(list(t, c.want))) || e != api.OK && !isZero(got) {
			t.Errorf("Cut from %s to %s: %s, %d", c.lo, c.hi, wavesText(got), e)
		}
	}
}

// TestWavesApart is R4: it changes what results and arguments consist of.
func TestWavesApart(t *testing.T) {
	d := dice(14)
	v, w := d.waves(2, 2), d.waves(2, 2)
	for k := range w.Freqs {
		w.Freqs[k] = w.Freqs[k].Add(num.Int(1000))
	}
	before := wavesText(v) + wavesText(w)
	m, _ := record.Merge(v, w)
	c, _ := record.Cut(v, num.Int(0), num.Int(1000))
	r, _ := record.Raws(v)
	texts := []string{wavesText(m), wavesText(c), matricesText(r)}
	if wavesText(v)+wavesText(w) != before {
		t.Error("an argument was changed")
	}
	for _, x := range []record.Waves{v, w} {
		x.Freqs[0], x.A[0][0][0], x.B[1][1][1] = num.Int(7), num.Int(7), num.Int(7)
		x.A[1][1], x.B[0] = nil, nil
	}
	for i, s := range []string{wavesText(m), wavesText(c), matricesText(r)} {
		if s != texts[i] {
			t.Errorf("result %d shares memory with an argument", i)
		}
	}
}
