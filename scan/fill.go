package scan

import (
	"slices"

	"waveport/api"
	"waveport/num"
	"waveport/transform"
)

// Fill returns the field with the samples at holes replaced such that the modes that are not kept vanish.
func Fill(g transform.Grid[num.Num], holes [][2]int, keep transform.Grid[bool]) (transform.Grid[num.Num], api.Errno) {
	rows, cols := g.Size()
	w, e := transform.Exact(cols)
	v, f := transform.Exact(rows)
	if e != api.OK || f != api.OK || !areAlike(g, keep) {
		return transform.Grid[num.Num]{}, api.ErrSize
	}
	if e := checkHoles(holes, rows, cols); e != api.OK {
		return transform.Grid[num.Num]{}, e
	}
	fadingOf := func(g transform.Grid[num.Num]) []num.Num {
		modes, _ := transform.ForwardGrid(g, w, v)
		return fading(modes, keep)
	}
	effects := make([][]num.Num, len(holes))
	for k, hole := range holes {
		effects[k] = fadingOf(changed(rows, cols, hole))
	}
	changes, e := cancelled(fadingOf(g), effects)
	if e != api.OK {
		return transform.Grid[num.Num]{}, e
	}
	return made(rows, cols, func(i, j int) (num.Num, api.Errno) {
		x, e := g.At(i, j)
		if k := slices.Index(holes, [2]int{i, j}); k >= 0 {
			x = x.Add(changes[k])
		}
		return x, e
	})
}

// checkHoles returns the error of the holes of a grid.
func checkHoles(holes [][2]int, rows, cols int) api.Errno {
	for k, hole := range holes {
		if hole[0] < 0 || hole[0] >= rows || hole[1] < 0 || hole[1] >= cols {
			return api.ErrArg
		}
		if slices.Contains(holes[:k], hole) {
			return api.ErrTwice
		}
	}
	return api.OK
}

// changed returns the grid that is 1 at a hole, and 0 elsewhere.
func changed(rows, cols int, hole [2]int) transform.Grid[num.Num] {
	g, _ := made(rows, cols, func(i, j int) (num.Num, api.Errno) {
		if hole == [2]int{i, j} {
			return num.Int(1), api.OK
		}
		return num.Num{}, api.OK
	})
	return g
}

// cancelled returns how often each of the effects must be added to x for the sum to be 0, if there is just one way.
func cancelled(x []num.Num, effects [][]num.Num) ([]num.Num, api.Errno) {
	m := make([][]num.Num, len(x))
	b := make([]num.Num, len(x))
	with := make([][]num.Num, len(x))
	for i := range m {
		for _, effect := range effects {
			m[i] = append(m[i], effect[i])
		}
		b[i] = x[i].Neg()
		with[i] = append(slices.Clone(m[i]), b[i])
	}
	rank, _ := num.Rank(m)
	rankWith, _ := num.Rank(with)
	switch {
	case rankWith > rank:
		return nil, api.ErrNone
	case rank < len(effects):
		return nil, api.ErrSingular
	}
	return num.Least(m, b)
}
