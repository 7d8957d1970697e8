package record

import (
	"bytes"
	"iter"

	"waveport/api"
)

// Scan returns the frames in b, and the bytes between them.
func Scan(b []byte) ([]api.Found, []api.Gap) {
	var found []api.Found
	var gaps []api.Gap
	end := 0 // of the last frame
	for at, f := range frames(b) {
		if end < at {
			gaps = append(gaps, api.Gap{From: end, To: at})
		}
		found = append(found, api.Found{At: at, Frame: f})
		end = at + frameSize(len(f.Pairs))
	}
	if end < len(b) {
		gaps = append(gaps, api.Gap{From: end, To: len(b)})
	}
	return found, gaps
}

// All yields the positions and the frames that Scan finds. It copies the bytes, as the iterator may be used when they have changed.
func All(b []byte) iter.Seq2[int, api.Frame] {
	return frames(bytes.Clone(b))
}

// frames yields the positions and the frames that Scan finds, and keeps b.
func frames(b []byte) iter.Seq2[int, api.Frame] {
	return func(yield func(int, api.Frame) bool) {
		for at := 0; at < len(b); {
			f, size, e := Decode(b[at:])
			if e != api.OK {
				at++
				continue
			}
			if !yield(at, f) {
				return
			}
			at += size
		}
	}
}
