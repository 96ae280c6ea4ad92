package num

import "math/bits"

// wide is a whole number of 128 bits with a sign, in two's complement: no sum or product of this layer leaves it.
type wide struct {
	hi int64
	lo uint64
}

// widen is a, as a wide number.
func widen(a int64) wide {
	return wide{a >> 63, uint64(a)} // a>>63 is the sign in every bit
}

// narrow is w, if 64 bits hold it.
func (w wide) narrow() (int64, bool) {
	low := int64(w.lo)
	if w != widen(low) {
		return 0, false
	}
	return low, true
}

// plus is w + o.
func (w wide) plus(o wide) wide {
	lo, carry := bits.Add64(w.lo, o.lo, 0)
	return wide{w.hi + o.hi + int64(carry), lo}
}

// minus is w - o.
func (w wide) minus(o wide) wide {
	lo, borrow := bits.Sub64(w.lo, o.lo, 0)
	return wide{w.hi - o.hi - int64(borrow), lo}
}

// signed is the number of that size, below nought if negative is set; hi has no highest bit.
func signed(hi, lo uint64, negative bool) wide {
	w := wide{int64(hi), lo}
	if negative {
		return wide{}.minus(w)
	}
	return w
}

// size is a without its sign.
func size(a int64) uint64 {
	if a < 0 {
		return -uint64(a) // the wrap-round makes -2^63 the 2^63 that no int64 is
	}
	return uint64(a)
}
