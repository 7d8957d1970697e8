package num

// integer is a natural with a sign. 0 is not negative.
type integer struct {
	size     natural
	negative bool
}

func fromInt(n int64) integer {
	if n < 0 {
		return integer{fromUint(-uint64(n)), true}
	}
	return integer{fromUint(uint64(n)), false}
}

func (x integer) isZero() bool {
	return len(x.size) == 0
}

// sign returns -1, 0 or 1.
func (x integer) sign() int {
	if x.isZero() {
		return 0
	}
	return order(x.negative)
}

func (x integer) same(y integer) bool {
	return x.negative == y.negative && x.size.compare(y.size) == 0
}

func (x integer) compare(y integer) int {
	switch {
	case x.negative != y.negative:
		return order(x.negative)
	case x.negative:
		return y.size.compare(x.size)
	}
	return x.size.compare(y.size)
}

func (x integer) neg() integer {
	return integer{x.size, !x.negative && !x.isZero()}
}

func (x integer) add(y integer) integer {
	if x.negative == y.negative {
		return integer{x.size.add(y.size), x.negative}
	}
	switch x.size.compare(y.size) {
	case 0:
		return integer{}
	case 1:
		return integer{x.size.sub(y.size), x.negative}
	}
	return integer{y.size.sub(x.size), y.negative}
}

func (x integer) sub(y integer) integer {
	return x.add(y.neg())
}

func (x integer) mul(y integer) integer {
	return x.scale(y.size).signed(y.negative)
}

// signed returns x, or -x if negative.
func (x integer) signed(negative bool) integer {
	if negative {
		return x.neg()
	}
	return x
}

// scale returns x times a natural.
func (x integer) scale(n natural) integer {
	size := x.size.mul(n)
	return integer{size, x.negative && len(size) > 0}
}

// exact returns x/n for an n that divides x.
func (x integer) exact(n natural) integer {
	return integer{x.size.exact(n), x.negative}
}

func (x integer) up(n int) integer {
	return integer{x.size.up(n), x.negative}
}

// floor returns x/n, rounded down.
func (x integer) floor(n natural) integer {
	q, rest := x.size.div(n)
	if x.negative && len(rest) > 0 {
		q = q.add(natural{1})
	}
	return integer{q, x.negative}
}
