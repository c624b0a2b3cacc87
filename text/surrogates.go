package text

// A character from firstJoined on is two units: a high surrogate with its upper
// ten bits, counted from firstJoined, and a low one with its lower ten bits.
const (
	firstHigh     = 0xD800
	firstLow      = 0xDC00
	firstJoined   = 0x10000
	surrogateBits = 10
	surrogateMask = 1<<surrogateBits - 1
)

func isHigh(unit uint16) bool {
	return unit&^surrogateMask == firstHigh
}

func isLow(unit uint16) bool {
	return unit&^surrogateMask == firstLow
}

// split returns the two surrogates of a character from firstJoined on.
func split(r rune) (high, low uint16) {
	r -= firstJoined
	return firstHigh | uint16(r>>surrogateBits), firstLow | uint16(r&surrogateMask)
}

// join returns the character of its two surrogates.
func join(high, low uint16) rune {
	return firstJoined + (rune(high-firstHigh)<<surrogateBits | rune(low-firstLow))
}
