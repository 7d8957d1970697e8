package record

import (
	"iter"
	"slices"

	"waveport/api"
	"waveport/num"
)

// cell is a place for a frame in a sweep.
type cell struct{ point, source, turn int }

// content is what there is in a cell.
type content struct {
	frame   api.Frame // the frame of the cell, if fine is above 0
	fine    int       // the number of frames without clipped ports
	clipped bool      // whether there is a frame with a clipped port
}

// with returns the content with one more frame.
func (c content) with(f api.Frame) content {
	if len(Clipped(f)) > 0 {
		c.clipped = true
		return c
	}
	if c.fine == 0 || f.Seq > c.frame.Seq {
		c.frame = f
	}
	c.fine++
	return c
}

// cells yields the cells of a plan in order.
func cells(p Plan) iter.Seq[cell] {
	return func(yield func(cell) bool) {
		for point := range p.Freqs {
			for s := range p.Ports {
				for turn := range p.Turns {
					if !yield(cell{point, s + 1, turn}) {
						return
					}
				}
			}
		}
	}
}

// gather returns what frames put into the cells of a plan.
func gather(p Plan, l []api.Frame) (map[cell]content, api.Errno) {
	if !ValidPlan(p) {
		return nil, api.ErrArg
	}
	for _, f := range l {
		if !Valid(f) {
			return nil, api.ErrArg
		}
		if !fits(f, p) {
			return nil, api.ErrSize
		}
	}
	found := map[cell]content{}
	first := map[uint32]api.Frame{} // by Seq
	for _, f := range l {
		if g, ok := first[f.Seq]; ok {
			if !equal(f, g) {
				return nil, api.ErrTwice
			}
			continue
		}
		first[f.Seq] = f
		c := cell{f.Point, f.Source, f.Turn}
		found[c] = found[c].with(f)
	}
	return found, api.OK
}

// fits reports whether a valid frame fits a plan.
func fits(f api.Frame, p Plan) bool {
	return len(f.Pairs) == p.Ports && f.Point < len(p.Freqs) && f.Turn < p.Turns
}

// equal reports whether two frames are equal in all fields.
func equal(f, g api.Frame) bool {
	return f.Seq == g.Seq && f.Point == g.Point && f.Source == g.Source && f.Turn == g.Turn && f.Scale == g.Scale &&
		slices.Equal(f.Mates, g.Mates) && slices.Equal(f.Pairs, g.Pairs)
}

// Check returns what is to be remarked of the frames of a sweep.
func Check(p Plan, l []api.Frame) ([]api.Remark, api.Errno) {
	found, e := gather(p, l)
	if e != api.OK {
		return nil, e
	}
	var out []api.Remark
	for c := range cells(p) {
		remark := func(kind int, applies bool) {
			if applies {
				out = append(out, api.Remark{Kind: kind, Point: c.point, Source: c.source, Turn: c.turn})
			}
		}
		there := found[c]
		remark(api.RemarkClipped, there.clipped)
		remark(api.RemarkRepeated, there.fine > 1)
		remark(api.RemarkMissing, there.fine == 0)
	}
	return out, api.OK
}

// Collect returns the sweep that frames make up.
func Collect(p Plan, l []api.Frame) (Waves, api.Errno) {
	found, e := gather(p, l)
	switch {
	case e != api.OK:
		return Waves{}, e
	case lacking(p, found):
		return Waves{}, api.ErrNone
	case moved(p, found):
		return Waves{}, api.ErrMoved
	}
	w := Waves{Freqs: slices.Clone(p.Freqs)}
	for point := range p.Freqs {
		a, b := blank(p.Ports), blank(p.Ports)
		for s := range p.Ports {
			x, y := means(turns(p, found, point, s+1))
			for i := range p.Ports {
				a[i][s], b[i][s] = x[i], y[i]
			}
		}
		w.A, w.B = append(w.A, a), append(w.B, b)
	}
	return w, api.OK
}

// turns returns the frames of the cells with a point and a source.
func turns(p Plan, found map[cell]content, point, source int) []api.Frame {
	var l []api.Frame
	for turn := range p.Turns {
		if c := found[cell{point, source, turn}]; c.fine > 0 {
			l = append(l, c.frame)
		}
	}
	return l
}

// lacking reports whether all cells with some point and source are empty.
func lacking(p Plan, found map[cell]content) bool {
	for point := range p.Freqs {
		for s := range p.Ports {
			if len(turns(p, found, point, s+1)) == 0 {
				return true
			}
		}
	}
	return false
}

// moved reports whether two frames of cells have different Mates.
func moved(p Plan, found map[cell]content) bool {
	var mates []int // of the first frame
	for c := range cells(p) {
		there := found[c]
		switch {
		case there.fine == 0:
		case mates == nil:
			mates = there.frame.Mates
		case !slices.Equal(mates, there.frame.Mates):
			return true
		}
	}
	return false
}

// means returns the means of the incident and of the reflected waves of valid frames, port by port.
func means(l []api.Frame) (a, b []num.Num) {
	a, b, _ = Values(l[0])
	for _, f := range l[1:] {
		x, y, _ := Values(f)
		for i := range a {
			a[i], b[i] = a[i].Add(x[i]), b[i].Add(y[i])
		}
	}
	count := num.Int(int64(len(l)))
	for i := range a {
		a[i], _ = a[i].Div(count)
		b[i], _ = b[i].Div(count)
	}
	return a, b
}

// blank returns a square matrix for the elements to be written to.
func blank(rows int) [][]num.Num {
	m := make([][]num.Num, rows)
	for i := range m {
		m[i] = make([]num.Num, rows)
	}
	return m
}
