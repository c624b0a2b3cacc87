// Package num has the exact numbers of the language: whole numbers of at most
// 2^53 - 1, minus zero, NaN and the two infinities. Chapter 1 of the document.
package num

import (
	"strconv"

	"rendezvous/api"
)

// May reports whether a is valid.
func May(a api.Num) bool {
	switch a.Kind {
	case api.NWhole:
		return -api.MaxSafe <= a.N && a.N <= api.MaxSafe
	case api.NNegZero, api.NNaN, api.NInf, api.NNegInf:
		return a.N == 0
	}
	return false
}

// Of returns the whole number n, and whether it is in the set.
func Of(n int) (api.Num, bool) {
	a := api.Num{Kind: api.NWhole, N: n}
	if !May(a) {
		return nan(), false
	}
	return a, true
}

// Add returns the sum, and whether it is in the set.
func Add(a, b api.Num) (api.Num, bool) {
	a, b = valid(a), valid(b)
	switch {
	case isNaN(a) || isNaN(b), isInfinite(a) && isInfinite(b) && a != b:
		return nan(), true
	case isInfinite(a):
		return a, true
	case isInfinite(b):
		return b, true
	case a.Kind == api.NNegZero && b.Kind == api.NNegZero:
		return a, true
	}
	// Minus zero has N 0, so it counts as 0 here.
	return Of(a.N + b.N)
}

// Sub returns the difference, and whether it is in the set.
func Sub(a, b api.Num) (api.Num, bool) {
	return Add(a, Neg(b))
}

// Mul returns the product, and whether it is in the set.
func Mul(a, b api.Num) (api.Num, bool) {
	a, b = valid(a), valid(b)
	minus := isNegative(a) != isNegative(b)
	switch {
	case isNaN(a) || isNaN(b), isInfinite(a) && isZero(b), isZero(a) && isInfinite(b):
		return nan(), true
	case isInfinite(a) || isInfinite(b):
		return infinity(minus), true
	case isZero(a) || isZero(b):
		return zero(minus), true
	}
	return product(a.N, b.N)
}

// Div returns the quotient, and whether it is in the set.
func Div(a, b api.Num) (api.Num, bool) {
	a, b = valid(a), valid(b)
	minus := isNegative(a) != isNegative(b)
	switch {
	case isNaN(a) || isNaN(b), isInfinite(a) && isInfinite(b), isZero(a) && isZero(b):
		return nan(), true
	case isInfinite(a) || isZero(b):
		return infinity(minus), true
	case isInfinite(b) || isZero(a):
		return zero(minus), true
	case a.N%b.N != 0:
		return nan(), false
	}
	return Of(a.N / b.N)
}

// Rem returns the remainder of a divided by b, with the sign of a.
func Rem(a, b api.Num) api.Num {
	a, b = valid(a), valid(b)
	switch {
	case isNaN(a) || isNaN(b) || isInfinite(a) || isZero(b):
		return nan()
	case isInfinite(b) || isZero(a):
		return a
	case a.N%b.N == 0:
		return zero(isNegative(a))
	}
	return api.Num{Kind: api.NWhole, N: a.N % b.N}
}

// Neg returns a with the opposite sign.
func Neg(a api.Num) api.Num {
	a = valid(a)
	switch a.Kind {
	case api.NNegZero:
		return zero(false)
	case api.NInf:
		return infinity(true)
	case api.NNegInf:
		return infinity(false)
	case api.NNaN:
		return a
	}
	if a.N == 0 {
		return zero(true)
	}
	return api.Num{Kind: api.NWhole, N: -a.N}
}

// Less reports whether a is less than b.
func Less(a, b api.Num) bool {
	a, b = valid(a), valid(b)
	return !isNaN(a) && !isNaN(b) && place(a) < place(b)
}

// Equal reports whether a and b are the same number; the zeros are, NaN is not.
func Equal(a, b api.Num) bool {
	a, b = valid(a), valid(b)
	return !isNaN(a) && !isNaN(b) && place(a) == place(b)
}

// Same reports whether a and b are the same number; NaN is, the two zeros are not.
func Same(a, b api.Num) bool {
	return valid(a) == valid(b)
}

// Int32 returns the 32-bit word of a, read with a sign.
func Int32(a api.Num) int {
	return int(int32(word(a)))
}

// Uint32 returns the 32-bit word of a, read without a sign.
func Uint32(a api.Num) int {
	return int(word(a))
}

// Whole returns 0 for NaN and minus zero, and a otherwise.
func Whole(a api.Num) api.Num {
	a = valid(a)
	switch a.Kind {
	case api.NNaN, api.NNegZero:
		return zero(false)
	}
	return a
}

// Index returns Whole(a) as an int, if it is a whole number and not negative.
func Index(a api.Num) (int, bool) {
	a = Whole(a)
	if a.Kind != api.NWhole || a.N < 0 {
		return 0, false
	}
	return a.N, true
}

// Bit returns what the bitwise operator op makes of the words of a and b:
// and, or, exclusive or, shift left, shift right with and without the sign.
func Bit(op int, a, b api.Num) api.Num {
	shift := word(b) % 32
	n := 0
	switch op {
	case 1:
		n = int(int32(word(a) & word(b)))
	case 2:
		n = int(int32(word(a) | word(b)))
	case 3:
		n = int(int32(word(a) ^ word(b)))
	case 4:
		n = int(int32(word(a) << shift))
	case 5:
		n = Int32(a) >> shift
	case 6:
		n = Uint32(a) >> shift
	default:
		return nan()
	}
	return api.Num{Kind: api.NWhole, N: n}
}

// Text returns a in decimal digits, or its name.
func Text(a api.Num) string {
	a = valid(a)
	switch a.Kind {
	case api.NNaN:
		return "NaN"
	case api.NInf:
		return "Infinity"
	case api.NNegInf:
		return "-Infinity"
	}
	return strconv.Itoa(a.N)
}

// Parse returns the number whose Text is s, and whether there is one.
func Parse(s string) (api.Num, bool) {
	switch s {
	case "NaN":
		return nan(), true
	case "Infinity":
		return infinity(false), true
	case "-Infinity":
		return infinity(true), true
	}
	n, err := strconv.Atoi(s)
	// Atoi also takes a plus, leading zeros and -0, which Text never writes.
	if err != nil || strconv.Itoa(n) != s {
		return nan(), false
	}
	return Of(n)
}

// valid returns NaN for what is no valid number, so that the calls meet only valid ones.
func valid(a api.Num) api.Num {
	if !May(a) {
		return nan()
	}
	return a
}

func nan() api.Num {
	return api.Num{Kind: api.NNaN}
}

func infinity(minus bool) api.Num {
	if minus {
		return api.Num{Kind: api.NNegInf}
	}
	return api.Num{Kind: api.NInf}
}

func zero(minus bool) api.Num {
	if minus {
		return api.Num{Kind: api.NNegZero}
	}
	return api.Num{Kind: api.NWhole}
}

func isNaN(a api.Num) bool {
	return a.Kind == api.NNaN
}

func isInfinite(a api.Num) bool {
	return a.Kind == api.NInf || a.Kind == api.NNegInf
}

func isZero(a api.Num) bool {
	return a.Kind == api.NNegZero || a.Kind == api.NWhole && a.N == 0
}

func isNegative(a api.Num) bool {
	switch a.Kind {
	case api.NWhole:
		return a.N < 0
	case api.NNegZero, api.NNegInf:
		return true
	}
	return false
}

// product multiplies two valid whole numbers that are not 0.
func product(x, y int) (api.Num, bool) {
	// The product of two such ints may wrap round, so its size is asked by a division first.
	if size(x) > api.MaxSafe/size(y) {
		return nan(), false
	}
	return Of(x * y)
}

func size(x int) int {
	if x < 0 {
		return -x
	}
	return x
}

// place returns an int that is ordered as the numbers other than NaN are:
// the infinities stand just outside the set, the zeros on one place.
func place(a api.Num) int {
	switch a.Kind {
	case api.NInf:
		return api.MaxSafe + 1
	case api.NNegInf:
		return -api.MaxSafe - 1
	}
	return a.N
}

// word returns the 32-bit word of a whole number, and 0 for all others.
func word(a api.Num) uint32 {
	a = valid(a)
	if a.Kind != api.NWhole {
		return 0
	}
	// The conversion keeps the low 32 bits, which is the remainder modulo 2^32.
	return uint32(a.N)
}
