package scan

import (
	"waveport/api"
	"waveport/box"
	"waveport/num"
	"waveport/transform"
)

// Pattern returns the powers of the modes of a field.
func Pattern(g transform.Grid[num.Num], w, v []num.Num) (transform.Grid[float32], api.Errno) {
	modes, e := transform.ForwardGrid(g, w, v)
	if e != api.OK {
		return transform.Grid[float32]{}, e
	}
	rows, cols := g.Size()
	return made(rows, cols, func(i, j int) (float32, api.Errno) {
		m, e := modes.At(i, j)
		return real(m.Norm().Near64()), e
	})
}

// Peak returns the row and the column of the strongest mode of a field, and its power divided by the mean power.
func Peak(g transform.Grid[num.Num], w, v []num.Num) (i, j int, gain num.Num, e api.Errno) {
	modes, e := transform.ForwardGrid(g, w, v)
	if e != api.OK {
		return 0, 0, num.Num{}, e
	}
	var greatest, total num.Num
	for row, l := range cells(modes) {
		for col, m := range l {
			norm := m.Norm()
			total = total.Add(norm)
			if norm.Cmp(greatest) > 0 {
				i, j, greatest = row, col, norm
			}
		}
	}
	rows, cols := g.Size()
	gain, e = greatest.Mul(num.Int(int64(rows * cols))).Div(total)
	return i, j, gain, e
}

// Dead returns the row and the column of the only dead element of an array.
func Dead(g transform.Grid[box.Box], nominal num.Num) (i, j int, e api.Errno) {
	if rows, _ := g.Size(); rows == 0 {
		return 0, 0, api.ErrSize
	}
	if !isPositive(nominal) {
		return 0, 0, api.ErrArg
	}
	quarter, _ := nominal.Div(num.Int(4))
	limit, _ := box.Around(quarter, quarter)
	dead := 0
	for row, l := range cells(g) {
		for col, b := range l {
			power := b.Norm()
			if power.Below(limit) == box.Yes {
				i, j = row, col
				dead++
			} else if limit.Below(power) != box.Yes {
				return 0, 0, api.ErrNone
			}
		}
	}
	if dead != 1 {
		return 0, 0, api.ErrNone
	}
	return i, j, api.OK
}
