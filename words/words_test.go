package words_test

import (
	"math"
	"strings"
	"testing"

	"murmur/api"
	"murmur/words"
)

func TestIsNumber(t *testing.T) {
	for _, text := range []string{"0", "1", "9", "10", "1000", strings.Repeat("9", 1000)} {
		if !words.IsNumber(text) {
			t.Errorf("%.40q is a number", text)
		}
	}
	for _, text := range []string{"", "00", "01", "-1", "-0", "+1", " 1", "1 ", "1\n", "1.0", "1e2", "0x1", "1_0", "a", "1a", "/", ":", "1:", "1/", "１", "\xff"} {
		if words.IsNumber(text) {
			t.Errorf("%q is no number", text)
		}
	}
}

func TestNumber(t *testing.T) {
	for _, c := range []struct {
		text        string
		least, most int
		want        int
		ok          bool
	}{
		{"0", 0, 0, 0, true}, {"1", 1, 4, 1, true}, {"4", 1, 4, 4, true}, {"1000", 0, 1000, 1000, true},
		{"0", 1, 4, 0, false}, {"5", 1, 4, 0, false}, {"1001", 0, 1000, 0, false}, {"01", 0, 9, 0, false}, {"", 0, 9, 0, false}, {"x", 0, 9, 0, false},
		{"9223372036854775807", 0, math.MaxInt, math.MaxInt, true}, {"9223372036854775808", 0, math.MaxInt, 0, false},
		{"18446744073709551616", 0, 9, 0, false}, {"18446744073709551617", 0, 9, 0, false}, {strings.Repeat("1", 1<<20), 0, 9, 0, false},
	} {
		if got, ok := words.Number(c.text, c.least, c.most); got != c.want || ok != c.ok {
			t.Errorf("Number(%.40q, %d, %d) = %d, %v, want %d, %v", c.text, c.least, c.most, got, ok, c.want, c.ok)
		}
	}
}

func TestIsName(t *testing.T) {
	for _, text := range []string{"a", "z", "az", "abc", "wxyz", strings.Repeat("q", api.MaxName)} {
		if !words.IsName(text) {
			t.Errorf("%q is a name", text)
		}
	}
	for _, text := range []string{"", "A", "Z", "aB", "a1", "1", "a ", " a", "a\n", "a_", "`", "{", "a{", "é", "\xff", "abcde", strings.Repeat("q", api.MaxName+1)} {
		if words.IsName(text) {
			t.Errorf("%q is no name", text)
		}
	}
}
