package network

import (
	"sort"

	"waveport/num"
)

// finest is the number of steps in which Shrink divides the elements.
const finest = 1024

// Reciprocal reports whether the device is reciprocal.
func Reciprocal(n Net[num.Num]) bool {
	for i, row := range n.s {
		for j := range i {
			if !row[j].Mul(n.z[j]).Same(n.s[j][i].Mul(n.z[i])) {
				return false
			}
		}
	}
	return true
}

// balance returns the matrix of the power that waves bring into all ports together.
func balance(n Net[num.Num]) [][]num.Num {
	return square(n.Ports(), func(i, k int) num.Num {
		sum, _ := unit[num.Num](i, k).Div(n.z[i])
		for m, row := range n.s {
			out, _ := row[i].Conj().Mul(row[k]).Div(n.z[m])
			sum = sum.Sub(out)
		}
		return sum
	})
}

// Lossless reports whether the power that enters the device leaves it.
func Lossless(n Net[num.Num]) bool {
	for _, row := range balance(n) {
		for _, x := range row {
			if x.Clear() {
				return false
			}
		}
	}
	return true
}

// Passive reports whether the device is passive; if it is not, the waves of the witness, entering, bring out more power than they have.
func Passive(n Net[num.Num]) (ok bool, witness []num.Num) {
	ok, witness, _ = num.Definite(balance(n))
	return ok, witness
}

// Shrink returns the network whose scattering matrix is that of n times the greatest k/1024 for which it is passive, and k.
func Shrink(n Net[num.Num]) (Net[num.Num], int) {
	// Smaller elements take less power out, so all steps up to k are passive, and none above it.
	k := sort.Search(finest, func(i int) bool {
		ok, _ := Passive(scaled(n, i+1))
		return !ok
	})
	return scaled(n, k), k
}

// scaled returns the network with k/1024 of the elements of n.
func scaled(n Net[num.Num], k int) Net[num.Num] {
	share, _ := num.New(int64(k), 0, finest)
	return Net[num.Num]{n.z, square(n.Ports(), func(i, j int) num.Num { return share.Mul(n.s[i][j]) })}
}
