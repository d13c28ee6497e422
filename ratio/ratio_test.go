package ratio_test

import (
	"math/big"
	"math/rand"
	"strings"
	"sync"
	"testing"

	"murmur/api"
	"murmur/ratio"
)

type call func(a string, b string) (string, api.Errno)

// calls are the calls that answer a fraction, in the document's order.
func calls() []struct {
	name string
	call call
} {
	return []struct {
		name string
		call call
	}{{"Add", ratio.Add}, {"Sub", ratio.Sub}, {"Mul", ratio.Mul}, {"Div", ratio.Div}}
}

// longest is a number of MaxDigits digits.
var longest = strings.Repeat("9", api.MaxDigits)

type answer struct {
	a, b string
	want string
	err  api.Errno
}

func checkAnswers(t *testing.T, name string, do call, cases []answer) {
	t.Helper()
	for _, c := range cases {
		got, err := do(c.a, c.b)
		if got != c.want || err != c.err {
			t.Errorf("%s(%.40q, %.40q) = %.60q, %d, want %.60q, %d", name, c.a, c.b, got, err, c.want, c.err)
		}
	}
}

// P3, the document's example 1.
func TestExamples(t *testing.T) {
	checkAnswers(t, "Add", ratio.Add, []answer{
		{"1/2", "1/3", "5/6", api.OK},
		{"-0", "0/5", "0", api.OK},
		{"1", "01", "", api.ErrText},
		{"1", "1/0", "", api.ErrText},
		{"1", "/2", "", api.ErrText},
		{"1", "1/-2", "", api.ErrText},
		{"1", "+1", "", api.ErrText},
	})
	checkAnswers(t, "Sub", ratio.Sub, []answer{{"1/2", "2/4", "0", api.OK}})
	checkAnswers(t, "Mul", ratio.Mul, []answer{{"-2/3", "9/4", "-3/2", api.OK}})
	checkAnswers(t, "Div", ratio.Div, []answer{{"7", "-1", "-7", api.OK}, {"1", "0", "", api.ErrZero}})
	if n, err := ratio.Compare("-1/2", "-1/3"); n != -1 || err != api.OK {
		t.Errorf("Compare = %d, %d, want -1, 0", n, err)
	}
}

// P3: ordinary values, signs and carries.
func TestOrdinary(t *testing.T) {
	checkAnswers(t, "Add", ratio.Add, []answer{
		{"1", "1", "2", api.OK},
		{"-1/2", "1/3", "-1/6", api.OK},
		{"-1/2", "-1/2", "-1", api.OK},
		{"1/2", "-1/2", "0", api.OK},
		{"1/6", "1/3", "1/2", api.OK},
		{"18446744073709551615", "1", "18446744073709551616", api.OK},
	})
	checkAnswers(t, "Sub", ratio.Sub, []answer{
		{"1", "2", "-1", api.OK},
		{"2", "-1/2", "5/2", api.OK},
		{"-1/2", "-1/2", "0", api.OK},
		{"18446744073709551616", "1", "18446744073709551615", api.OK},
	})
	checkAnswers(t, "Mul", ratio.Mul, []answer{
		{"-2", "-3", "6", api.OK},
		{"2/3", "3/2", "1", api.OK},
		{"-5/7", "0", "0", api.OK},
		{"4294967296", "4294967296", "18446744073709551616", api.OK},
	})
	checkAnswers(t, "Div", ratio.Div, []answer{
		{"1", "2", "1/2", api.OK},
		{"1", "-2", "-1/2", api.OK},
		{"-3/4", "-1/2", "3/2", api.OK},
		{"0", "-7", "0", api.OK},
		{"6/4", "3/2", "1", api.OK},
	})
}

// P3: arguments that are no reduced fractions are fractions all the same, and
// every answer is reduced.
func TestNotReducedArguments(t *testing.T) {
	for _, c := range []struct{ text, reduced string }{
		{"0", "0"}, {"-0", "0"}, {"0/5", "0"}, {"-0/5", "0"}, {"0/1", "0"},
		{"1/1", "1"}, {"-1/1", "-1"}, {"5/1", "5"}, {"5/5", "1"}, {"-5/5", "-1"},
		{"10/4", "5/2"}, {"-10/4", "-5/2"}, {"10/5", "2"}, {"4/6", "2/3"},
		{longest + "/" + longest, "1"}, {"-" + longest + "/1", "-" + longest},
	} {
		checkAnswers(t, "Add", ratio.Add, []answer{{c.text, "0", c.reduced, api.OK}, {"0", c.text, c.reduced, api.OK}})
		checkAnswers(t, "Sub", ratio.Sub, []answer{{c.text, "-0", c.reduced, api.OK}, {c.text, c.text, "0", api.OK}})
		checkAnswers(t, "Mul", ratio.Mul, []answer{{c.text, "3/3", c.reduced, api.OK}})
		checkAnswers(t, "Div", ratio.Div, []answer{{c.text, "1/1", c.reduced, api.OK}, {"1", "0/5", "", api.ErrZero}})
		if n, err := ratio.Compare(c.text, c.reduced); n != 0 || err != api.OK {
			t.Errorf("Compare(%.40q, %.40q) = %d, %d, want 0, 0", c.text, c.reduced, n, err)
		}
	}
}

// P3: numbers of MaxDigits digits are taken, and answers may be longer.
func TestLongest(t *testing.T) {
	zeros := strings.Repeat("0", api.MaxDigits)
	square := longest[1:] + "8" + zeros[1:] + "1"
	checkAnswers(t, "Add", ratio.Add, []answer{
		{longest, "1", "1" + zeros, api.OK},
		{"-" + longest, "-1", "-1" + zeros, api.OK},
		{"1/" + longest, "1", "1" + zeros + "/" + longest, api.OK},
	})
	checkAnswers(t, "Sub", ratio.Sub, []answer{
		{"-" + longest, "1", "-1" + zeros, api.OK},
		{longest, "-" + longest, "1" + longest[1:] + "8", api.OK},
	})
	checkAnswers(t, "Mul", ratio.Mul, []answer{
		{longest, longest, square, api.OK},
		{"-1/" + longest, "1/" + longest, "-1/" + square, api.OK},
		{longest + "/7", "7/" + longest, "1", api.OK},
	})
	checkAnswers(t, "Div", ratio.Div, []answer{
		{longest, "-1/" + longest, "-" + square, api.OK},
		{"1/" + longest, longest, "1/" + square, api.OK},
	})
	if n, err := ratio.Compare("1/"+longest, "1/1"+zeros[1:]); n != -1 || err != api.OK {
		t.Errorf("Compare of 1/longest = %d, %d, want -1, 0", n, err)
	}
}

// noFractions are texts that no call may take for a fraction.
func noFractions() []string {
	return []string{
		"", "-", "/", "-/", "--1", "-+1", "+1", "+", "1-", "- 1",
		"/1", "/2", "-/2", "1/", "-1/", "1//2", "1/2/3", "1/2/", "/1/2",
		"1/0", "0/0", "-1/0", "1/00", "1/-2", "1/+2", "1/-0",
		"00", "01", "-01", "-00", "007", "1/01", "1/02", "00/1", "01/2",
		" 1", "1 ", "1 /2", "1/ 2", "1\n", "\t1", "1\x00", "\x00",
		"1.5", "1.", ".5", "1e3", "1E3", "1/1e3", "1_0", "1/1_0", "0x1", "0b1", "0o7", "0X1", "1,0",
		"a", "f", "x/1", "1/x", "Inf", "NaN", "inf", "-inf", "½", "１", "\xff", "1\xff", "1:", "1/:",
		"1" + longest, "-1" + longest, "1/1" + longest, "1" + longest + "/2", "0" + longest,
		strings.Repeat("0", api.MaxDigits+1), strings.Repeat("-", 1000), strings.Repeat("1/", 1000),
		strings.Repeat("7", 1<<20), "1/" + strings.Repeat("7", 1<<20),
	}
}

// P3, P1: what is no fraction is ErrText, as either argument, also where Div
// would be ErrZero, and every other result is empty or 0.
func TestNoFraction(t *testing.T) {
	for _, text := range noFractions() {
		for _, other := range []string{"1", "0", "-3/4", "x", text} {
			for _, c := range calls() {
				checkAnswers(t, c.name, c.call, []answer{{text, other, "", api.ErrText}, {other, text, "", api.ErrText}})
			}
			if n, err := ratio.Compare(text, other); n != 0 || err != api.ErrText {
				t.Errorf("Compare(%.40q, %.40q) = %d, %d, want 0, ErrText", text, other, n, err)
			}
			if n, err := ratio.Compare(other, text); n != 0 || err != api.ErrText {
				t.Errorf("Compare(%.40q, %.40q) = %d, %d, want 0, ErrText", other, text, n, err)
			}
		}
	}
}

// P3: every way to write 0 is a 0 for Div, and for Div alone.
func TestDivideByZero(t *testing.T) {
	for _, zero := range []string{"0", "-0", "0/1", "0/5", "-0/5", "0/" + longest} {
		for _, a := range []string{"0", "-0", "1", "-1/2", longest} {
			checkAnswers(t, "Div", ratio.Div, []answer{{a, zero, "", api.ErrZero}})
		}
		checkAnswers(t, "Div", ratio.Div, []answer{{zero, "-7", "0", api.OK}, {"01", zero, "", api.ErrText}})
		checkAnswers(t, "Mul", ratio.Mul, []answer{{"-7", zero, "0", api.OK}})
	}
}

// P3: fractions in ascending order, held against each other in both ways.
func TestCompare(t *testing.T) {
	ascending := []string{
		"-1" + longest[1:], "-10", "-9", "-1", "-2/3", "-1/2", "-1/3", "-1/" + longest, "-0/7",
		"1/" + longest, "33333333/100000000", "1/3", "33333334/100000000", "1/2", "2/3", "1", "9", "10", longest,
	}
	for i, a := range ascending {
		for j, b := range ascending {
			want := 0
			if i < j {
				want = -1
			}
			if i > j {
				want = 1
			}
			if n, err := ratio.Compare(a, b); n != want || err != api.OK {
				t.Errorf("Compare(%.40q, %.40q) = %d, %d, want %d, 0", a, b, n, err, want)
			}
		}
	}
}

// A pair is a fraction as two whole numbers, for a reckoning that does not
// lean on reduced fractions.
type pair struct{ above, below *big.Int }

func product(x *big.Int, y *big.Int) *big.Int { return new(big.Int).Mul(x, y) }

// randomPair is a fraction with some divisors in common, of up to 60 digits.
func randomPair(r *rand.Rand) pair {
	bound := new(big.Int).Lsh(big.NewInt(1), uint(1+r.Intn(90)))
	common := big.NewInt(1 + r.Int63n(1000))
	above := product(common, new(big.Int).Rand(r, bound))
	below := product(common, new(big.Int).Add(big.NewInt(1), new(big.Int).Rand(r, bound)))
	if r.Intn(2) == 0 {
		above.Neg(above)
	}
	return pair{above, below}
}

func (p pair) text() string { return p.above.String() + "/" + p.below.String() }

// readReduced reads an answer, and tells whether it is reduced.
func readReduced(text string) (pair, bool) {
	above, below, divided := strings.Cut(text, "/")
	if !divided {
		below = "1"
	}
	x, okAbove := new(big.Int).SetString(above, 10)
	y, okBelow := new(big.Int).SetString(below, 10)
	if !okAbove || !okBelow || y.Sign() <= 0 {
		return pair{}, false
	}
	p := pair{x, y}
	wide := divided && below == "1"
	common := new(big.Int).GCD(nil, nil, new(big.Int).Abs(x), y)
	plain := x.String() == above && y.String() == below
	return p, plain && !wide && common.Cmp(big.NewInt(1)) == 0
}

// P3: answers at random arguments are reduced and, multiplied crosswise, what
// the reckoning without reducing gives.
func TestRandom(t *testing.T) {
	r := rand.New(rand.NewSource(7))
	for range 2000 {
		a, b := randomPair(r), randomPair(r)
		left, right := product(a.above, b.below), product(b.above, a.below)
		both := product(a.below, b.below)
		wants := []pair{
			{new(big.Int).Add(left, right), both},
			{new(big.Int).Sub(left, right), both},
			{product(a.above, b.above), both},
			{left, right},
		}
		for i, c := range calls() {
			if c.name == "Div" && b.above.Sign() == 0 {
				continue
			}
			text, err := c.call(a.text(), b.text())
			got, reduced := readReduced(text)
			if err != api.OK || !reduced || product(got.above, wants[i].below).Cmp(product(wants[i].above, got.below)) != 0 {
				t.Fatalf("%s(%s, %s) = %s, %d", c.name, a.text(), b.text(), text, err)
			}
		}
		if n, err := ratio.Compare(a.text(), b.text()); n != left.Cmp(right) || err != api.OK {
			t.Fatalf("Compare(%s, %s) = %d, %d", a.text(), b.text(), n, err)
		}
	}
}

// P2: an answer hangs on the arguments alone, not on the calls ahead or beside.
func TestSameAnswerAgain(t *testing.T) {
	texts := append(noFractions(), "0", "-0/5", "1/2", "-2/4", longest, "-1/"+longest)
	first := answersOf(texts)
	var group sync.WaitGroup
	for range 4 {
		group.Go(func() {
			for i, again := range answersOf(texts) {
				if again != first[i] {
					t.Errorf("answer %d is %.60q, was %.60q", i, again, first[i])
				}
			}
		})
	}
	group.Wait()
}

// answersOf are the answers of all calls at neighbours in the list.
func answersOf(texts []string) []string {
	var answers []string
	for i, a := range texts {
		b := texts[(i+1)%len(texts)]
		for _, c := range calls() {
			text, err := c.call(a, b)
			answers = append(answers, text+" "+string(rune('0'+err)))
		}
		n, err := ratio.Compare(a, b)
		answers = append(answers, string(rune('1'+n))+" "+string(rune('0'+err)))
	}
	return answers
}

// P1: no text makes a call panic, and an error comes with nothing beside it.
func FuzzTexts(f *testing.F) {
	for _, text := range noFractions() {
		if len(text) < 1000 {
			f.Add(text, "-1/2")
		}
	}
	f.Fuzz(func(t *testing.T, a string, b string) {
		for _, c := range calls() {
			text, err := c.call(a, b)
			if err != api.OK && text != "" {
				t.Errorf("%s(%q, %q) = %q beside %d", c.name, a, b, text, err)
			}
			if _, reduced := readReduced(text); err == api.OK && !reduced {
				t.Errorf("%s(%q, %q) = %q, not reduced", c.name, a, b, text)
			}
		}
		if n, err := ratio.Compare(a, b); n < -1 || n > 1 || err != api.OK && n != 0 {
			t.Errorf("Compare(%q, %q) = %d, %d", a, b, n, err)
		}
	})
}
