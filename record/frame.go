package record

import (
	"math"

	"waveport/api"
)

// Parts of the bytes of a frame.
const (
	letters  = 3  // bytes that tell a frame and its number of ports
	headSize = 16 // bytes ahead of those of the ports
	portSize = 10 // bytes of a port
	sumSize  = 2  // bytes of the check sum
)

// frameSize returns the number of bytes of a frame.
func frameSize(ports int) int {
	return headSize + portSize*ports + sumSize
}

// Valid reports whether a frame is valid.
func Valid(f api.Frame) bool {
	ports := len(f.Pairs)
	if !within(ports, 1, api.MaxPorts) || len(f.Mates) != ports {
		return false
	}
	for _, m := range f.Mates {
		if !within(m, 0, api.MaxMate) {
			return false
		}
	}
	return within(f.Point, 0, api.MaxPoints-1) && within(f.Source, 1, ports) && within(f.Turn, 0, api.MaxTurns-1) &&
		f.Scale > 0 && f.Scale <= math.MaxFloat32
}

// Sum returns the check sum of bytes.
func Sum(b []byte) uint16 {
	register := uint16(0xffff)
	for _, x := range b {
		register ^= uint16(x) << 8
		for range 8 {
			out := register >> 15
			register = register<<1 ^ 0x1021*out
		}
	}
	return register
}

// Encode returns the bytes of a frame.
func Encode(f api.Frame) ([]byte, api.Errno) {
	if !Valid(f) {
		return nil, api.ErrArg
	}
	b := []byte{'W', 'V', byte(len(f.Pairs)), byte(f.Source)}
	b = append32(b, f.Seq)
	b = append16(b, uint16(f.Point))
	b = append(b, byte(f.Turn), 0)
	b = append32(b, math.Float32bits(f.Scale))
	for i, p := range f.Pairs {
		b = append16(b, uint16(f.Mates[i]))
		for _, x := range [4]int16{p.A[0], p.A[1], p.B[0], p.B[1]} {
			b = append16(b, uint16(x))
		}
	}
	sum := Sum(b)
	return append16(b, sum), api.OK
}

// append16 returns b with the bytes of x behind it.
func append16(b []byte, x uint16) []byte {
	return append(b, byte(x>>8), byte(x))
}

// append32 returns b with the bytes of x behind it.
func append32(b []byte, x uint32) []byte {
	return append16(append16(b, uint16(x>>16)), uint16(x))
}

// Decode returns the frame at the beginning of b, and the number of its bytes.
func Decode(b []byte) (api.Frame, int, api.Errno) {
	if !mayBegin(b) {
		return api.Frame{}, 0, api.ErrForm
	}
	if len(b) < letters || len(b) < frameSize(int(b[2])) {
		return api.Frame{}, 0, api.ErrTorn
	}
	size := frameSize(int(b[2]))
	body := b[:size-sumSize]
	if Sum(body) != word16(b[size-sumSize:]) {
		return api.Frame{}, 0, api.ErrSum
	}
	head := [headSize]byte(body)
	f := readHead(head)
	readPorts(&f, body[headSize:])
	if head[11] != 0 || !Valid(f) {
		return api.Frame{}, 0, api.ErrArg
	}
	return f, size, api.OK
}

// mayBegin reports whether as many as there are of the first bytes of b are those of a frame.
func mayBegin(b []byte) bool {
	for i, x := range b[:min(len(b), letters)] {
		switch i {
		case 0:
			if x != 'W' {
				return false
			}
		case 1:
			if x != 'V' {
				return false
			}
		default:
			if !within(int(x), 1, api.MaxPorts) {
				return false
			}
		}
	}
	return true
}

// readHead returns the frame without ports that has a head.
func readHead(head [headSize]byte) api.Frame {
	return api.Frame{
		Source: int(head[3]),
		Seq:    word32(head[4:]),
		Point:  int(word16(head[8:])),
		Turn:   int(head[10]),
		Scale:  math.Float32frombits(word32(head[12:])),
	}
}

// readPorts gives a frame the ports that have these bytes.
func readPorts(f *api.Frame, b []byte) {
	for ; len(b) >= portSize; b = b[portSize:] {
		var x [4]int16
		for i := range x {
			x[i] = int16(word16(b[2+2*i:]))
		}
		f.Mates = append(f.Mates, int(word16(b)))
		f.Pairs = append(f.Pairs, api.Pair{A: [2]int16{x[0], x[1]}, B: [2]int16{x[2], x[3]}})
	}
}

// word16 returns the number that the first two bytes of b are.
func word16(b []byte) uint16 {
	return uint16(b[0])<<8 | uint16(b[1])
}

// word32 returns the number that the first four bytes of b are.
func word32(b []byte) uint32 {
	return uint32(word16(b))<<16 | uint32(word16(b[2:]))
}
