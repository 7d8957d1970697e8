package record

import (
	"waveport/api"
	"waveport/num"
)

// Clipped returns the ports whose receivers are clipped.
func Clipped(f api.Frame) []int {
	var ports []int
	for i, p := range f.Pairs {
		if clips(p.A) || clips(p.B) {
			ports = append(ports, i+1)
		}
	}
	return ports
}

// clips reports whether a part of a sample is at a limit of the converter.
func clips(sample [2]int16) bool {
	for _, x := range sample {
		if x >= api.Full || x <= -api.Full {
			return true
		}
	}
	return false
}

// Values returns the exact incident and reflected waves of a frame.
func Values(f api.Frame) (a, b []num.Num, e api.Errno) {
	if !Valid(f) {
		return nil, nil, api.ErrArg
	}
	scale, _ := num.Complex64(complex(f.Scale, 0)) // it is finite
	for _, p := range f.Pairs {
		a = append(a, scale.Mul(exact(p.A)))
		b = append(b, scale.Mul(exact(p.B)))
	}
	return a, b, api.OK
}

// exact returns the number that a sample is without its scale.
func exact(sample [2]int16) num.Num {
	x, _ := num.New(int64(sample[0]), int64(sample[1]), 1)
	return x
}

// Samples returns the incident and reflected waves of a frame as complex64s, port by port.
func Samples(f api.Frame) ([][2]complex64, api.Errno) {
	if !Valid(f) {
		return nil, api.ErrArg
	}
	var out [][2]complex64
	for _, p := range f.Pairs {
		out = append(out, [2]complex64{scaled(p.A, f.Scale), scaled(p.B, f.Scale)})
	}
	return out, api.OK
}

// scaled returns a sample times its scale, each part rounded once.
func scaled(sample [2]int16, scale float32) complex64 {
	return complex(float32(sample[0])*scale, float32(sample[1])*scale)
}

// Wear returns the greatest connection counter of each port.
func Wear(l []api.Frame) ([]api.Count, api.Errno) {
	var out []api.Count
	for _, f := range l {
		if !Valid(f) {
			return nil, api.ErrArg
		}
		for i, m := range f.Mates {
			if i == len(out) {
				out = append(out, api.Count{Port: i + 1})
			}
			out[i].Count = max(out[i].Count, m)
		}
	}
	return out, api.OK
}
