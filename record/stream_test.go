package record_test

import (
	"reflect"
	"testing"

	"waveport/api"
	"waveport/record"
)

// search looks for frames by Decode at each offset.
func search(b []byte) ([]api.Found, []api.Gap) {
	var found []api.Found
	var skipped []int
	for at := 0; at < len(b); {
		if f, n, e := record.Decode(b[at:]); e == api.OK {
			found = append(found, api.Found{At: at, Frame: f})
			at += n
			continue
		}
		skipped = append(skipped, at)
		at++
	}
	var gaps []api.Gap
	for _, at := range skipped {
		if n := len(gaps); n > 0 && gaps[n-1].To == at {
			gaps[n-1].To++
		} else {
			gaps = append(gaps, api.Gap{From: at, To: at + 1})
		}
	}
	return found, gaps
}

// addUp tests that frames and gaps are all of b, in order and without overlap.
func addUp(t *testing.T, b []byte, found []api.Found, gaps []api.Gap) {
	t.Helper()
	end := 0
	for len(found)+len(gaps) > 0 {
		switch {
		case len(found) > 0 && found[0].At == end:
			end += 18 + 10*len(found[0].Frame.Pairs)
			found = found[1:]
		case len(gaps) > 0 && gaps[0].From == end && gaps[0].To > end:
			end = gaps[0].To
			gaps = gaps[1:]
			if len(gaps) > 0 && gaps[0].From == end {
				t.Errorf("a gap of %x ends at %d, but goes on there", b, end)
			}
		default:
			t.Fatalf("nothing begins at %d of %x", end, b)
		}
	}
	if end != len(b) {
		t.Errorf("%d of %d bytes", end, len(b))
	}
}

// allOf returns what All yields.
func allOf(b []byte) []api.Found {
	var out []api.Found
	for at, f := range record.All(b) {
		out = append(out, api.Found{At: at, Frame: f})
	}
	return out
}

// TestStreams is P3.3.
func TestStreams(t *testing.T) {
	d := dice(3)
	for i := range 200 {
		var clean, b []byte
		var frames, found []api.Found
		for range d.below(6) {
			f := d.frame(d.below(8) + 1)
			frames = append(frames, api.Found{At: len(clean), Frame: f})
			clean = append(clean, encode(t, f)...)
			switch d.below(4) {
			case 0:
				b = append(b, d.bytes(d.below(40))...)
			case 1: // looks like a longer frame
				b = append(b, 'W', 'V', 8, 1)
			case 2: // the beginning of a frame
				torn := encode(t, d.frame(2))
				b = append(b, torn[:d.below(38)]...)
			}
			found = append(found, api.Found{At: len(b), Frame: f})
			b = append(b, encode(t, f)...)
		}
		if got, gaps := record.Scan(clean); !same(got, frames) || len(gaps) > 0 {
			t.Errorf("stream %d: %v, %v, want %v", i, got, gaps, frames)
		}
		got, gaps := record.Scan(b)
		if !same(got, found) {
			t.Errorf("stream %d with noise: %v, want %v", i, got, found)
		}
		addUp(t, b, got, gaps)
		if !same(allOf(b), found) {
			t.Errorf("stream %d: All yields %v, want %v", i, allOf(b), found)
		}
	}
}

// TestAnyBytes has bytes of which some look like frames.
func TestAnyBytes(t *testing.T) {
	d := dice(4)
	for range 300 {
		var b []byte
		for range d.below(12) {
			switch d.below(5) {
			case 0:
				b = append(b, d.bytes(d.below(9))...)
			case 1:
				b = append(b, "WVWV\x01"[:d.below(6)]...)
			case 2:
				b = append(b, encode(t, d.frame(d.below(3)+1))...)
			case 3: // a frame with a changed bit
				c := encode(t, d.frame(1))
				c[d.below(len(c))] ^= 1 << d.below(8)
				b = append(b, c...)
			case 4: // one that is not valid
				c := encode(t, d.frame(1))
				c[11] = 1
				b = append(b, sealed(c)...)
			}
		}
		found, gaps := record.Scan(b)
		wantFound, wantGaps := search(b)
		if !same(found, wantFound) || !same(gaps, wantGaps) {
			t.Errorf("Scan of %x: %v, %v, want %v, %v", b, found, gaps, wantFound, wantGaps)
		}
		addUp(t, b, found, gaps)
		if !same(allOf(b), found) {
			t.Errorf("All of %x: %v, want %v", b, allOf(b), found)
		}
	}
}

// TestFrameInFrame has a frame in the bytes of another one: behind a found one the search goes on, in a spoilt one it goes on inside.
func TestFrameInFrame(t *testing.T) {
	inner := encode(t, simple())
	outer := encode(t, api.Frame{Seq: 4, Source: 3, Scale: 1, Mates: make([]int, 3), Pairs: make([]api.Pair, 3)})
	copy(outer[17:], inner)
	sealed(outer)
	found, gaps := record.Scan(outer)
	if len(found) != 1 || found[0].At != 0 || found[0].Frame.Seq != 4 || len(gaps) != 0 {
		t.Errorf("Scan of a frame with another one inside: %v, %v", found, gaps)
	}
	outer[47] ^= 1
	found, gaps = record.Scan(outer)
	if !reflect.DeepEqual(found, []api.Found{{At: 17, Frame: simple()}}) || !reflect.DeepEqual(gaps, []api.Gap{{From: 0, To: 17}, {From: 45, To: 48}}) {
		t.Errorf("Scan of a spoilt frame with another one inside: %v, %v", found, gaps)
	}
	for _, s := range []string{"", "x", "WV", "WV\x01"} {
		found, gaps := record.Scan([]byte(s))
		if len(found) != 0 || len(s) == 0 && len(gaps) != 0 || len(s) > 0 && !reflect.DeepEqual(gaps, []api.Gap{{From: 0, To: len(s)}}) {
			t.Errorf("Scan of %q: %v, %v", s, found, gaps)
		}
	}
}

// TestAll stops the iterator, and uses it again.
func TestAll(t *testing.T) {
	var b []byte
	for k := range 5 {
		f := simple()
		f.Seq = uint32(k)
		b = append(append(b, encode(t, f)...), '-')
	}
	all := record.All(b)
	for most := range 7 {
		var seqs []uint32
		if most > 0 {
			for at, f := range all {
				if at != 29*int(f.Seq) {
					t.Errorf("frame %d at %d", f.Seq, at)
				}
				seqs = append(seqs, f.Seq)
				if len(seqs) == most {
					break
				}
			}
		}
		if want := []uint32{0, 1, 2, 3, 4}[:min(most, 5)]; !same(seqs, want) {
			t.Errorf("All, stopped after %d: %v", most, seqs)
		}
	}
	for range record.All(nil) {
		t.Error("All of no bytes yields a frame")
	}
}

// TestAllIsLazy counts pieces of memory: a frame that is not asked for takes none.
func TestAllIsLazy(t *testing.T) {
	var b []byte
	for range 500 {
		b = append(b, encode(t, simple())...)
	}
	pieces := testing.AllocsPerRun(10, func() {
		for range record.All(b) {
			break
		}
	})
	if pieces > 100 {
		t.Errorf("All takes %v pieces of memory for one frame of 500", pieces)
	}
}

// TestFoundApart is R4: neither bytes nor frames share memory.
func TestFoundApart(t *testing.T) {
	b := append(encode(t, simple()), encode(t, simple())...)
	text := string(b)
	found, _ := record.Scan(b)
	var yielded []api.Frame
	for _, f := range record.All(b) {
		yielded = append(yielded, f)
	}
	if string(b) != text {
		t.Error("Scan or All changed the bytes")
	}
	for i := range b {
		b[i] = 0
	}
	found[0].Frame.Mates[0], found[0].Frame.Pairs[0] = 99, api.Pair{}
	yielded[0].Mates[0], yielded[0].Pairs[0] = 99, api.Pair{}
	if !reflect.DeepEqual(found[1].Frame, simple()) || !reflect.DeepEqual(yielded[1], simple()) {
		t.Error("frames share memory")
	}
}
