package num

import "math/bits"

// natural is a whole number from 0 on, in words of 32 bits, the lowest one first. The last word is not 0, so 0 has no words. A natural is never changed once it has been returned: naturals may share their words.
type natural []uint32

const wordBits = 32

func fromUint(u uint64) natural {
	return natural{uint32(u), uint32(u >> wordBits)}.trim()
}

// small returns x as an integer, and whether it fits.
func (x natural) small() (uint64, bool) {
	switch len(x) {
	case 0:
		return 0, true
	case 1:
		return uint64(x[0]), true
	case 2:
		return uint64(x[1])<<wordBits | uint64(x[0]), true
	}
	return 0, false
}

// trim takes off the highest words that are 0.
func (x natural) trim() natural {
	n := len(x)
	for n > 0 && x[n-1] == 0 {
		n--
	}
	return x[:n]
}

func (x natural) isOne() bool {
	return len(x) == 1 && x[0] == 1
}

// isPower reports whether x is a power of two.
func (x natural) isPower() bool {
	return len(x) > 0 && x.twos() == x.length()-1
}

// length returns the number of bits of x, 0 for 0.
func (x natural) length() int {
	if len(x) == 0 {
		return 0
	}
	return (len(x)-1)*wordBits + bits.Len32(x[len(x)-1])
}

// twos returns how often x, which is not 0, can be halved.
func (x natural) twos() int {
	i := 0
	for x[i] == 0 {
		i++
	}
	return i*wordBits + bits.TrailingZeros32(x[i])
}

func (x natural) compare(y natural) int {
	if len(x) != len(y) {
		return order(len(x) < len(y))
	}
	for i := len(x) - 1; i >= 0; i-- {
		if x[i] != y[i] {
			return order(x[i] < y[i])
		}
	}
	return 0
}

// order returns the result of a comparison of two different values.
func order(less bool) int {
	if less {
		return -1
	}
	return 1
}

func (x natural) add(y natural) natural {
	if len(x) < len(y) {
		x, y = y, x
	}
	if len(y) == 0 {
		return x
	}
	z := make(natural, len(x)+1)
	copy(z, x)
	increase(z, y)
	return z.trim()
}

// increase adds y to z, which has room for the sum.
func increase(z, y natural) {
	var carry uint32
	for i, w := range y {
		z[i], carry = bits.Add32(z[i], w, carry)
	}
	for i := len(y); carry != 0; i++ {
		z[i], carry = bits.Add32(z[i], 0, carry)
	}
}

// sub returns x - y; y is not above x.
func (x natural) sub(y natural) natural {
	if len(y) == 0 {
		return x
	}
	z := make(natural, len(x))
	var borrow uint32
	for i, w := range y {
		z[i], borrow = bits.Sub32(x[i], w, borrow)
	}
	for i := len(y); i < len(x); i++ {
		z[i], borrow = bits.Sub32(x[i], 0, borrow)
	}
	return z.trim()
}

// up returns x times 2^n.
func (x natural) up(n int) natural {
	if len(x) == 0 || n == 0 {
		return x
	}
	z := make(natural, len(x)+n/wordBits+1)
	shiftInto(z[n/wordBits:], x, n%wordBits)
	return z.trim()
}

// shiftInto writes x times 2^n, with n less than the bits of a word, to z, which has one word more than x.
func shiftInto(z, x natural, n int) {
	var carry uint32
	for i, w := range x {
		z[i] = w<<n | carry
		carry = w >> (wordBits - n)
	}
	z[len(x)] = carry
}

// down returns x divided by 2^n, rounded down.
func (x natural) down(n int) natural {
	if n == 0 {
		return x
	}
	if n >= x.length() {
		return nil
	}
	x = x[n/wordBits:]
	n %= wordBits
	z := make(natural, len(x))
	for i, w := range x {
		z[i] = w >> n
		if i+1 < len(x) {
			z[i] |= x[i+1] << (wordBits - n)
		}
	}
	return z.trim()
}
