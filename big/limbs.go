package big

// The functions here work on sizes: limbs of 32 bits, the least one first, where
// zeros at the end do not count. A step is done in 64 bits, where nothing wraps
// round; what does not fit into its limb is carried to the next one.

// limbBits is how many bits a limb has.
const limbBits = 32

// split returns the limbs of a word.
func split(w uint64) []uint32 {
	return []uint32{uint32(w), uint32(w >> limbBits)}
}

// power returns the limbs of 2^bits.
func power(bits int) []uint32 {
	out := make([]uint32, bits/limbBits+1)
	out[bits/limbBits] = 1 << (bits % limbBits)
	return out
}

// limb returns the limb at i; behind the last one there are zeros.
func limb(x []uint32, i int) uint32 {
	if i < len(x) {
		return x[i]
	}
	return 0
}

// trim returns x without the zeros at its end.
func trim(x []uint32) []uint32 {
	end := len(x)
	for end > 0 && x[end-1] == 0 {
		end--
	}
	return x[:end]
}

func isZero(x []uint32) bool {
	return len(trim(x)) == 0
}

// compare returns -1, 0 or 1 if x is less than, equal to, or greater than y.
func compare(x, y []uint32) int {
limbs:
	for i := max(len(x), len(y)) - 1; i >= 0; i-- {
		a, b := limb(x, i), limb(y, i)
		switch {
		case a == b:
			continue limbs
		case a < b:
			return -1
		}
		return 1
	}
	return 0
}

// sum returns x + y.
func sum(x, y []uint32) []uint32 {
	out := make([]uint32, max(len(x), len(y))+1)
	carry := uint64(0)
	for i := range out {
		step := uint64(limb(x, i)) + uint64(limb(y, i)) + carry
		out[i], carry = uint32(step), step>>limbBits
	}
	return out
}

// subtract takes y away from x, in place; y is not greater than x.
func subtract(x, y []uint32) {
	borrow := uint64(0)
limbs:
	for i := range x {
		if i >= len(y) && borrow == 0 {
			break limbs
		}
		// One unit of the next limb is lent to each step, and comes back where it was not needed.
		step := 1<<limbBits + uint64(x[i]) - uint64(limb(y, i)) - borrow
		x[i], borrow = uint32(step), 1-step>>limbBits
	}
}

// product returns x * y.
func product(x, y []uint32) []uint32 {
	out := make([]uint32, len(x)+len(y))
rows:
	for i, a := range x {
		if a == 0 {
			continue rows
		}
		carry := uint64(0)
		for k, b := range y {
			step := uint64(a)*uint64(b) + uint64(out[i+k]) + carry
			out[i+k], carry = uint32(step), step>>limbBits
		}
		out[i+len(y)] = uint32(carry)
	}
	return out
}

// divide returns x / y, rounded down, and what is left over; y is not zero.
// It goes down the bits of x as one does by hand down the digits.
func divide(x, y []uint32) (quotient, rest []uint32) {
	quotient = make([]uint32, len(x))
	// Twice what is left over may have one bit more than y.
	rest = make([]uint32, len(y)+1)
bits:
	for i := len(x)*limbBits - 1; i >= 0; i-- {
		at, bit := i/limbBits, i%limbBits
		grow(rest, 2, x[at]>>bit&1)
		if compare(rest, y) < 0 {
			continue bits
		}
		subtract(rest, y)
		quotient[at] |= 1 << bit
	}
	return quotient, rest
}

// cut returns the lowest bits of x.
func cut(bits int, x []uint32) []uint32 {
	out := []uint32{}
limbs:
	for i, a := range x {
		left := bits - i*limbBits
		switch {
		case left <= 0:
			break limbs
		case left < limbBits:
			a &= 1<<left - 1
		}
		out = append(out, a)
	}
	return out
}

// grow makes x * by + more of x, in place, and returns what has no room there.
func grow(x []uint32, by, more uint32) uint32 {
	carry := uint64(more)
	for i, a := range x {
		step := uint64(a)*uint64(by) + carry
		x[i], carry = uint32(step), step>>limbBits
	}
	return uint32(carry)
}

// shrink makes x / by of x, in place, and returns what is left over; by is not 0.
func shrink(x []uint32, by uint32) uint32 {
	rest := uint64(0)
	for i := len(x) - 1; i >= 0; i-- {
		step := rest<<limbBits | uint64(x[i])
		x[i], rest = uint32(step/uint64(by)), step%uint64(by)
	}
	return uint32(rest)
}
