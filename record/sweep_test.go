package record_test

import (
	"reflect"
	"slices"
	"testing"

	"waveport/api"
	"waveport/num"
	"waveport/record"
)

// counted returns the frequencies 1, 2, 3 ..
func counted(n int) []num.Num {
	var l []num.Num
	for k := range n {
		l = append(l, num.Int(int64(k+1)))
	}
	return l
}

// badFreqs are lists of frequencies that no plan, sweep or table may have.
func badFreqs(t *testing.T) [][]num.Num {
	return [][]num.Num{nil, counted(1025), list(t, "0 1"), list(t, "-1"), list(t, "1 2 2 3"), list(t, "1 3 2"), list(t, "1+1i"), list(t, "1 2i"), list(t, "1 2+1i"), list(t, "1 1")}
}

func TestValidPlan(t *testing.T) {
	for i, c := range []struct {
		p    record.Plan
		want bool
	}{
		{record.Plan{Ports: 1, Freqs: list(t, "1/1000"), Turns: 1}, true},
		{record.Plan{Ports: 8, Freqs: counted(1024), Turns: 64}, true},
		{record.Plan{Ports: 0, Freqs: counted(1), Turns: 1}, false},
		{record.Plan{Ports: -1, Freqs: counted(1), Turns: 1}, false},
		{record.Plan{Ports: 9, Freqs: counted(1), Turns: 1}, false},
		{record.Plan{Ports: 1, Freqs: counted(1), Turns: 0}, false},
		{record.Plan{Ports: 1, Freqs: counted(1), Turns: 65}, false},
		{record.Plan{Ports: 1, Freqs: counted(1), Turns: -1}, false},
		{record.Plan{}, false},
	} {
		if got := record.ValidPlan(c.p); got != c.want {
			t.Errorf("case %d: %v", i, got)
		}
		if _, e := record.Check(c.p, nil); (e == api.OK) != c.want || !c.want && e != api.ErrArg {
			t.Errorf("Check, case %d: %d", i, e)
		}
		if _, e := record.Collect(c.p, []api.Frame{{}}); e != api.ErrArg {
			t.Errorf("Collect, case %d: %d", i, e)
		}
	}
	for i, l := range badFreqs(t) {
		p := record.Plan{Ports: 1, Freqs: l, Turns: 1}
		_, e := record.Check(p, nil)
		if record.ValidPlan(p) || e != api.ErrArg {
			t.Errorf("frequencies %d: %d", i, e)
		}
	}
}

// one is a frame with one port, the scale 1 and real samples.
func one(seq uint32, turn int, a, b int16) api.Frame {
	return api.Frame{Seq: seq, Source: 1, Turn: turn, Scale: 1, Mates: []int{3}, Pairs: []api.Pair{{A: [2]int16{a, 0}, B: [2]int16{b, 0}}}}
}

func clipped(f api.Frame) api.Frame {
	f = copied(f)
	f.Pairs[len(f.Pairs)-1].B[1] = -32767
	return f
}

func moved(f api.Frame) api.Frame {
	f = copied(f)
	f.Mates[len(f.Mates)-1]++
	return f
}

func TestCells(t *testing.T) {
	p := record.Plan{Ports: 1, Freqs: counted(1), Turns: 2}
	for i, c := range []struct {
		l    []api.Frame
		want string // elements of A and B
		e    api.Errno
		kind [2][]int // of the remarks on both turns
	}{
		{[]api.Frame{one(1, 0, 1, 2), one(2, 1, 3, 5)}, "2 7/2", api.OK, [2][]int{}},
		{[]api.Frame{one(1, 0, 1, 2), one(2, 1, 3, 5), one(1, 0, 1, 2), one(2, 1, 3, 5)}, "2 7/2", api.OK, [2][]int{}},
		{[]api.Frame{one(1, 1, 1, 2)}, "1 2", api.OK, [2][]int{{3}, nil}},
		{[]api.Frame{one(1, 0, 1, 2), clipped(one(2, 1, 3, 5))}, "1 2", api.OK, [2][]int{nil, {1, 3}}},
		{[]api.Frame{one(1, 0, 1, 2), clipped(one(2, 0, 3, 5))}, "1 2", api.OK, [2][]int{{1}, {3}}},
		{[]api.Frame{one(1, 0, 1, 2), clipped(one(2, 0, 3, 5)), one(0, 0, 7, 7)}, "1 2", api.OK, [2][]int{{1, 2}, {3}}},
		{[]api.Frame{one(8, 0, 4, 4), one(1, 0, 1, 2), one(7, 0, 6, 6), one(2, 1, 2, 2)}, "3 3", api.OK, [2][]int{{2}, nil}},
		{[]api.Frame{one(1, 0, 1, 2), moved(one(2, 1, 3, 5))}, "", api.ErrMoved, [2][]int{}},
		{[]api.Frame{moved(one(1, 0, 1, 2)), one(2, 0, 3, 5)}, "3 5", api.OK, [2][]int{{2}, {3}}}, // only the frames of cells count
		{[]api.Frame{one(1, 0, 1, 2), moved(clipped(one(2, 1, 3, 5)))}, "1 2", api.OK, [2][]int{nil, {1, 3}}},
		{[]api.Frame{clipped(one(2, 1, 3, 5))}, "", api.ErrNone, [2][]int{{3}, {1, 3}}},
		{nil, "", api.ErrNone, [2][]int{{3}, {3}}},
		{[]api.Frame{one(0, 0, 1, 2), one(1<<32-1, 0, 5, 7)}, "5 7", api.OK, [2][]int{{2}, {3}}},
	} {
		w, e := record.Collect(p, c.l)
		if e != c.e || e == api.OK && (len(w.A) != 1 || len(w.B) != 1 || matrixText(w.A[0])+" "+matrixText(w.B[0]) != c.want) || e != api.OK && !isZero(w) {
			t.Errorf("Collect, case %d: %s, %d, want %s, %d", i, wavesText(w), e, c.want, c.e)
		}
		var want []api.Remark
		for turn, l := range c.kind {
			for _, kind := range l {
				want = append(want, api.Remark{Kind: kind, Source: 1, Turn: turn})
			}
		}
		if r, e := record.Check(p, c.l); e != api.OK || !slices.Equal(r, want) {
			t.Errorf("Check, case %d: %v, %d, want %v", i, r, e, want)
		}
	}
}

func TestSweepErrors(t *testing.T) {
	p := record.Plan{Ports: 2, Freqs: counted(3), Turns: 2}
	f := api.Frame{Seq: 1, Source: 1, Scale: 1, Mates: []int{1, 2}, Pairs: make([]api.Pair, 2)}
	with := func(change func(f *api.Frame)) api.Frame {
		g := copied(f)
		change(&g)
		return g
	}
	invalid := with(func(f *api.Frame) { f.Scale = 0 })
	late := with(func(f *api.Frame) { f.Turn = 2 })
	for i, c := range []struct {
		l       []api.Frame
		check   api.Errno
		collect api.Errno
	}{
		{[]api.Frame{f}, api.OK, api.ErrNone},
		{[]api.Frame{f, f}, api.OK, api.ErrNone},
		{[]api.Frame{late}, api.ErrSize, api.ErrSize},
		{[]api.Frame{with(func(f *api.Frame) { f.Point = 3 })}, api.ErrSize, api.ErrSize},
		{[]api.Frame{with(func(f *api.Frame) { f.Point = 2 })}, api.OK, api.ErrNone},
		{[]api.Frame{simple()}, api.ErrSize, api.ErrSize},
		{[]api.Frame{with(func(f *api.Frame) { f.Mates, f.Pairs = make([]int, 3), make([]api.Pair, 3) })}, api.ErrSize, api.ErrSize},
		{[]api.Frame{invalid}, api.ErrArg, api.ErrArg},
		{[]api.Frame{with(func(f *api.Frame) { f.Scale, f.Turn = 0, 2 })}, api.ErrArg, api.ErrArg},
		{[]api.Frame{late, invalid}, api.ErrSize, api.ErrSize},
		{[]api.Frame{invalid, late}, api.ErrArg, api.ErrArg},
		{[]api.Frame{f, with(func(f *api.Frame) { f.Point = 1 }), invalid}, api.ErrArg, api.ErrArg},
		{[]api.Frame{f, with(func(f *api.Frame) { f.Point = 1 }), late}, api.ErrSize, api.ErrSize},
		{[]api.Frame{f, with(func(f *api.Frame) { f.Point = 1 })}, api.ErrTwice, api.ErrTwice},
		{[]api.Frame{f, with(func(f *api.Frame) { f.Source = 2 })}, api.ErrTwice, api.ErrTwice},
		{[]api.Frame{f, with(func(f *api.Frame) { f.Turn = 1 })}, api.ErrTwice, api.ErrTwice},
		{[]api.Frame{f, with(func(f *api.Frame) { f.Scale = 2 })}, api.ErrTwice, api.ErrTwice},
		{[]api.Frame{f, with(func(f *api.Frame) { f.Mates[1] = 3 })}, api.ErrTwice, api.ErrTwice},
		{[]api.Frame{f, with(func(f *api.Frame) { f.Pairs[1].A[0] = 3 })}, api.ErrTwice, api.ErrTwice},
		{[]api.Frame{f, with(func(f *api.Frame) { f.Pairs[1].B[1] = 32767 })}, api.ErrTwice, api.ErrTwice},
		{[]api.Frame{f, f, with(func(f *api.Frame) { f.Seq = 2 }), with(func(f *api.Frame) { f.Seq, f.Turn = 2, 1 })}, api.ErrTwice, api.ErrTwice},
	} {
		r, e := record.Check(p, c.l)
		w, g := record.Collect(p, c.l)
		if e != c.check || g != c.collect || e != api.OK && len(r) > 0 || !isZero(w) {
			t.Errorf("case %d: Check %v, %d, Collect %s, %d, want %d, %d", i, r, e, wavesText(w), g, c.check, c.collect)
		}
	}
	// A cell that is missing comes before connections that were changed.
	q := record.Plan{Ports: 1, Freqs: counted(2), Turns: 2}
	if _, e := record.Collect(q, []api.Frame{one(1, 0, 1, 1), moved(one(2, 1, 1, 1))}); e != api.ErrNone {
		t.Errorf("Collect with two errors: %d", e)
	}
	last := moved(one(3, 0, 1, 1))
	last.Point = 1
	if _, e := record.Collect(q, []api.Frame{one(1, 0, 1, 1), one(2, 1, 1, 1), last}); e != api.ErrMoved {
		t.Errorf("Collect with other Mates at another point: %d", e)
	}
}

// readings returns frames for a plan: several of some cells, some clipped, none of some.
func (d *dice) readings(p record.Plan) []api.Frame {
	var out []api.Frame
	seqs := map[uint32]bool{}
	for k := range p.Freqs {
		for s := range p.Ports {
			for turn := range p.Turns {
				for range d.below(4) {
					f := d.frame(p.Ports)
					f.Point, f.Source, f.Turn, f.Mates = k, s+1, turn, make([]int, p.Ports)
					f.Seq >>= 20 * d.below(2)
					for seqs[f.Seq] {
						f.Seq++
					}
					seqs[f.Seq] = true
					if d.below(4) == 0 {
						f = clipped(f)
					}
					out = append(out, f)
				}
			}
		}
	}
	return out
}

// cellFrame returns the frame of a cell, and the remarks on it.
func cellFrame(l []api.Frame, point, source, turn int) (best *api.Frame, remarks []api.Remark) {
	fine, dirty := 0, false
	for i, f := range l {
		if f.Point != point || f.Source != source || f.Turn != turn {
			continue
		}
		if len(record.Clipped(f)) > 0 {
			dirty = true
			continue
		}
		fine++
		if best == nil || f.Seq > best.Seq {
			best = &l[i]
		}
	}
	for kind, applies := range []bool{false, dirty, fine > 1, fine == 0} {
		if applies {
			remarks = append(remarks, api.Remark{Kind: kind, Point: point, Source: source, Turn: turn})
		}
	}
	return best, remarks
}

// assembled returns what Collect and Check have to return for frames without errors.
func assembled(p record.Plan, l []api.Frame) (record.Waves, []api.Remark, api.Errno) {
	w := record.Waves{Freqs: p.Freqs}
	var remarks []api.Remark
	lacks := false
	for k := range p.Freqs {
		a, b := make([][]num.Num, p.Ports), make([][]num.Num, p.Ports)
		for s := range p.Ports {
			sumA, sumB := make([]num.Num, p.Ports), make([]num.Num, p.Ports)
			count := num.Int(0)
			for turn := range p.Turns {
				f, r := cellFrame(l, k, s+1, turn)
				remarks = append(remarks, r...)
				if f == nil {
					continue
				}
				count = count.Add(num.Int(1))
				x, y, _ := record.Values(*f)
				for i := range x {
					sumA[i], sumB[i] = sumA[i].Add(x[i]), sumB[i].Add(y[i])
				}
			}
			lacks = lacks || !count.Clear()
			for i := range p.Ports {
				x, _ := sumA[i].Div(count)
				y, _ := sumB[i].Div(count)
				a[i], b[i] = append(a[i], x), append(b[i], y)
			}
		}
		w.A, w.B = append(w.A, a), append(w.B, b)
	}
	if lacks {
		return record.Waves{}, remarks, api.ErrNone
	}
	return w, remarks, api.OK
}

// TestCollect compares with a slow way of finding the frames of cells.
func TestCollect(t *testing.T) {
	d := dice(7)
	fine := 0
	for i := range 120 {
		p := record.Plan{Ports: i%4 + 1, Freqs: d.freqs(d.below(3) + 1), Turns: d.below(5) + 1}
		l := d.readings(p)
		want, remarks, e := assembled(p, l)
		w, f := record.Collect(p, l)
		if f != e || wavesText(w) != wavesText(want) {
			t.Errorf("sweep %d: %s, %d, want %s, %d", i, wavesText(w), f, wavesText(want), e)
		}
		if r, e := record.Check(p, l); e != api.OK || !slices.Equal(r, remarks) {
			t.Errorf("sweep %d: %v, %d, want %v", i, r, e, remarks)
		}
		if e == api.OK {
			fine++
			if !record.ValidWaves(w) {
				t.Errorf("sweep %d is not valid", i)
			}
		}
	}
	if fine < 20 {
		t.Errorf("%d sweeps without an error", fine)
	}
}

// shuffled returns frames in another order, some of them several times.
func (d *dice) shuffled(l []api.Frame) []api.Frame {
	out := slices.Clone(l)
	for range d.below(len(l) + 1) {
		out = append(out, copied(l[d.below(len(l))]))
	}
	for i := range out {
		k := d.below(i + 1)
		out[i], out[k] = out[k], out[i]
	}
	return out
}

// TestAnyOrder is P3.4.
func TestAnyOrder(t *testing.T) {
	d := dice(8)
	more := 0
	for i := range 60 {
		p := record.Plan{Ports: i%3 + 1, Freqs: d.freqs(2), Turns: d.below(3) + 1}
		l := d.readings(p)
		if len(l) == 0 {
			continue
		}
		w, e := record.Collect(p, l)
		r, _ := record.Check(p, l)
		for range 3 {
			m := d.shuffled(l)
			v, f := record.Collect(p, m)
			s, _ := record.Check(p, m)
			if f != e || wavesText(v) != wavesText(w) || !slices.Equal(r, s) {
				t.Errorf("sweep %d in another order: %s, %d, %v, want %s, %d, %v", i, wavesText(v), f, s, wavesText(w), e, r)
			}
		}
		longer := slices.Clone(l)
		for k, f := range l {
			if len(record.Clipped(f)) > 0 {
				continue
			}
			older := moved(f) // of the same cell, with a lesser Seq
			older.Seq = uint32(k)
			older.Scale /= 2
			unreadable := clipped(moved(f))
			unreadable.Seq = 1<<32 - 1 - uint32(k)
			if f.Seq > uint32(len(l)) && older.Scale > 0 {
				longer = append(longer, older)
			}
			longer = append(longer, unreadable)
		}
		if uniqueSeqs(longer) {
			more++
			if v, f := record.Collect(p, longer); f != e || wavesText(v) != wavesText(w) {
				t.Errorf("sweep %d with frames that do not count: %s, %d, want %s, %d", i, wavesText(v), f, wavesText(w), e)
			}
		}
	}
	if more < 20 {
		t.Errorf("%d sweeps with frames that do not count", more)
	}
}

func uniqueSeqs(l []api.Frame) bool {
	seqs := map[uint32]bool{}
	for _, f := range l {
		seqs[f.Seq] = true
	}
	return len(seqs) == len(l)
}

// TestExactWaves is the first sentence of P3.5: the same waves are read with several scales.
func TestExactWaves(t *testing.T) {
	d := dice(9)
	for i := range 40 {
		p := record.Plan{Ports: i%8 + 1, Freqs: d.freqs(1), Turns: 3}
		want := record.Waves{Freqs: p.Freqs, A: [][][]num.Num{nil}, B: [][][]num.Num{nil}}
		for range p.Ports {
			want.A[0], want.B[0] = append(want.A[0], make([]num.Num, p.Ports)), append(want.B[0], make([]num.Num, p.Ports))
		}
		var l []api.Frame
		for s := range p.Ports {
			pairs := make([]api.Pair, p.Ports)
			for k := range pairs {
				x, y := [2]int16{int16(d.below(99)), -int16(d.below(99))}, [2]int16{int16(d.below(99)) - 50, int16(d.below(99))}
				pairs[k] = api.Pair{A: x, B: y}
				want.A[0][k][s], _ = num.New(int64(x[0]), int64(x[1]), 8)
				want.B[0][k][s], _ = num.New(int64(y[0]), int64(y[1]), 8)
			}
			for turn := range 3 { // scales of 1/8, 1/16 and 1/32
				f := api.Frame{Seq: uint32(len(l)), Source: s + 1, Turn: turn, Scale: 0.125 / float32(int(1)<<turn), Mates: make([]int, p.Ports), Pairs: slices.Clone(pairs)}
				for k := range f.Pairs {
					for j := range 2 {
						f.Pairs[k].A[j] <<= turn
						f.Pairs[k].B[j] <<= turn
					}
				}
				l = append(l, f)
			}
		}
		w, e := record.Collect(p, d.shuffled(l))
		if e != api.OK || wavesText(w) != wavesText(want) {
			t.Errorf("sweep %d: %s, %d, want %s", i, wavesText(w), e, wavesText(want))
		}
	}
}

// TestGreatestSweep has a cell for each turn, source and port.
func TestGreatestSweep(t *testing.T) {
	p := record.Plan{Ports: 8, Freqs: counted(4), Turns: 64}
	var l []api.Frame
	for k := range 4 {
		for s := range 8 {
			for turn := range 64 {
				f := api.Frame{Seq: uint32(len(l)), Point: k, Source: s + 1, Turn: turn, Scale: 1, Mates: make([]int, 8), Pairs: make([]api.Pair, 8)}
				for i := range 8 {
					f.Pairs[i] = api.Pair{A: [2]int16{int16(1000*k + 100*s + turn), 0}, B: [2]int16{0, int16(100 * i)}}
				}
				l = append(l, f)
			}
		}
	}
	w, e := record.Collect(p, l)
	if e != api.OK || len(w.A) != 4 || w.A[3][7][2].Text() != "6463/2" || w.B[0][5][7].Text() != "500i" {
		t.Errorf("Collect: %d", e)
	}
	if r, e := record.Check(p, l); e != api.OK || len(r) != 0 {
		t.Errorf("Check: %v, %d", r, e)
	}
	if r, e := record.Check(p, l[:len(l)-1]); e != api.OK || !slices.Equal(r, []api.Remark{{Kind: api.RemarkMissing, Point: 3, Source: 8, Turn: 63}}) {
		t.Errorf("Check without the last frame: %v, %d", r, e)
	}
}

// TestSweepApart is R4.
func TestSweepApart(t *testing.T) {
	p := record.Plan{Ports: 1, Freqs: counted(2), Turns: 1}
	g := one(2, 0, 3, 4)
	g.Point = 1
	l := []api.Frame{g, one(1, 0, 1, 2), g, {}}
	w, _ := record.Collect(p, l[:3])
	record.Check(p, l[:3])
	record.Wear(l[:3])
	if !reflect.DeepEqual(l, []api.Frame{g, one(1, 0, 1, 2), g, {}}) || listText(p.Freqs) != "1 2" {
		t.Error("an argument was changed")
	}
	text := wavesText(w)
	p.Freqs[0] = num.Int(9)
	l[0].Mates[0], l[1].Pairs[0] = 8, api.Pair{}
	if wavesText(w) != text {
		t.Error("a sweep shares memory with an argument")
	}
}
