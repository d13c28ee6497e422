package murmur

import (
	"strings"

	"murmur/api"
)

// Draw draws from a tape (P4).
func Draw(k int, tape string) (int, int, api.Errno) {
	if k < 1 || k > api.MaxNoise {
		return 0, 0, api.ErrArg
	}
	if !isTape(tape) {
		return 0, 0, api.ErrText
	}
	draw, taken, ok := drawNoise(k, tape)
	if !ok {
		return 0, 0, api.ErrZero
	}
	return draw, taken, api.OK
}

// isTape tells whether the text is a tape of at most MaxTape bits.
func isTape(text string) bool {
	if len(text) > api.MaxTape {
		return false
	}
	for i := range len(text) {
		if text[i] != '0' && text[i] != '1' {
			return false
		}
	}
	return true
}

// drawNoise makes a draw from a tape that is known to be one, and tells how
// many bits it took; it answers false if the tape ends ahead of the last trial.
func drawNoise(k int, tape string) (int, int, bool) {
	first, firstTaken, ok := drawGeometric(k, tape)
	if !ok {
		return 0, 0, false
	}
	second, secondTaken, ok := drawGeometric(k, tape[firstTaken:])
	if !ok {
		return 0, 0, false
	}
	return first - second, firstTaken + secondTaken, true
}

// drawGeometric makes trials until one stops: it answers how many did not, and
// how many bits all of them took, or false if the tape ends first.
func drawGeometric(k int, tape string) (int, int, bool) {
	stop := strings.Repeat("1", k)
	for passed := 0; (passed+1)*k <= len(tape); passed++ {
		if tape[passed*k:(passed+1)*k] == stop {
			return passed, (passed + 1) * k, true
		}
	}
	return 0, 0, false
}
