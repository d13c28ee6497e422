// Package ratio: exact fractions, as texts: see DOC.md, P3.
package ratio

import (
	"math/big"

	"murmur/api"
)

// Add is the sum.
func Add(a string, b string) (string, api.Errno) {
	x, y, ok := parsePair(a, b)
	if !ok {
		return "", api.ErrText
	}
	return new(big.Rat).Add(x, y).RatString(), api.OK
}

// Sub is the difference.
func Sub(a string, b string) (string, api.Errno) {
	x, y, ok := parsePair(a, b)
	if !ok {
		return "", api.ErrText
	}
	return new(big.Rat).Sub(x, y).RatString(), api.OK
}

// Mul is the product.
func Mul(a string, b string) (string, api.Errno) {
	x, y, ok := parsePair(a, b)
	if !ok {
		return "", api.ErrText
	}
	return new(big.Rat).Mul(x, y).RatString(), api.OK
}

// Div is the quotient.
func Div(a string, b string) (string, api.Errno) {
	x, y, ok := parsePair(a, b)
	if !ok {
		return "", api.ErrText
	}
	if y.Sign() == 0 {
		return "", api.ErrZero
	}
	return new(big.Rat).Quo(x, y).RatString(), api.OK
}

// Compare tells which is greater.
func Compare(a string, b string) (int, api.Errno) {
	x, y, ok := parsePair(a, b)
	if !ok {
		return 0, api.ErrText
	}
	return x.Cmp(y), api.OK
}
