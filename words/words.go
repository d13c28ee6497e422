// Package words: numbers and names, of which murmur's texts are made: see DOC.md, Words.
package words

import (
	"strconv"

	"murmur/api"
)

// IsNumber tells whether the text is `0`, or digits the first of which is not 0.
func IsNumber(text string) bool {
	if text == "" || text[0] == '0' && text != "0" {
		return false
	}
	for i := range len(text) {
		if text[i] < '0' || text[i] > '9' {
			return false
		}
	}
	return true
}

// Number reads a number; it answers false if the text is none, or one that is
// not from least to most.
func Number(text string, least int, most int) (int, bool) {
	if !IsNumber(text) {
		return 0, false
	}
	number, err := strconv.Atoi(text)
	if err != nil || number < least || number > most {
		return 0, false
	}
	return number, true
}

// IsName tells whether the text is a name: 1 to MaxName letters `a` to `z`.
func IsName(text string) bool {
	if text == "" || len(text) > api.MaxName {
		return false
	}
	for i := range len(text) {
		if text[i] < 'a' || text[i] > 'z' {
			return false
		}
	}
	return true
}
