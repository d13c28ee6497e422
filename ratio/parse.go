package ratio

import (
	"math/big"
	"strings"

	"murmur/api"
	"murmur/words"
)

// parsePair reads two fractions; it answers false if one of the texts is none.
func parsePair(a string, b string) (*big.Rat, *big.Rat, bool) {
	x, ok := parse(a)
	if !ok {
		return nil, nil, false
	}
	y, ok := parse(b)
	if !ok {
		return nil, nil, false
	}
	return x, y, true
}

// parse reads a fraction; it answers false if the text is none.
// The form is checked here and not left to big.Rat, which also takes
// `+1`, `1.5`, `0x1` and leading zeros.
func parse(text string) (*big.Rat, bool) {
	unsigned, negative := strings.CutPrefix(text, "-")
	above, below, divided := strings.Cut(unsigned, "/")
	if !divided {
		below = "1"
	}
	numerator, ok := parseNumber(above)
	if !ok {
		return nil, false
	}
	denominator, ok := parseNumber(below)
	if !ok || denominator.Sign() == 0 {
		return nil, false
	}
	if negative {
		numerator.Neg(numerator)
	}
	return new(big.Rat).SetFrac(numerator, denominator), true
}

// parseNumber reads a number of at most MaxDigits digits.
func parseNumber(text string) (*big.Int, bool) {
	if len(text) > api.MaxDigits || !words.IsNumber(text) {
		return nil, false
	}
	return new(big.Int).SetString(text, 10)
}
