package murmur_test

import (
	"math/big"
	"math/rand"
	"regexp"
	"slices"
	"strings"
	"sync"
	"testing"

	"murmur/api"
	"murmur/murmur"
)

func checkAsk(t *testing.T, s *murmur.Server, request string, want string) {
	t.Helper()
	if got := s.Ask(request); got != want {
		t.Errorf("Ask(%q) = %.100q, want %q", request, got, want)
	}
}

// checkBooks holds the journal, what ann and bob have spent, and what is left
// against what they should be.
func checkBooks(t *testing.T, s *murmur.Server, journal string, ann int, bob int, left int) {
	t.Helper()
	if got := s.Journal(); got != journal {
		t.Errorf("Journal() = %q, want %q", got, journal)
	}
	if got := s.Spent("ann"); got != ann {
		t.Errorf("Spent(ann) = %d, want %d", got, ann)
	}
	if got := s.Spent("bob"); got != bob {
		t.Errorf("Spent(bob) = %d, want %d", got, bob)
	}
	if got := s.Left(); got != left {
		t.Errorf("Left() = %d, want %d", got, left)
	}
}

// P6, P7, P8: the document's examples 3 and 4.
func TestAskExamples(t *testing.T) {
	s := newServer(t, exampleConfig, exampleRows(), strings.Repeat("1", 100))
	checkBooks(t, s, "", 0, 0, 3)
	checkAsk(t, s, "ann a=0", "OK 3/5")
	checkBooks(t, s, "ann:1,1;", 1, 0, 2)
	checkAsk(t, s, "ann b=1", "OK 17/30")
	checkBooks(t, s, "ann:1,1;ann:1,1;", 2, 0, 1)
	checkAsk(t, s, "ann b=1", "OK 17/30")
	checkBooks(t, s, "ann:1,1;ann:1,1;", 2, 0, 1)
	checkAsk(t, s, "bob a=0|b=1", "OK 9/17")
	checkBooks(t, s, "ann:1,1;ann:1,1;bob:2,0;", 2, 2, 1)
}

// noRequests are texts that are no request of the example's config.
func noRequests() []string {
	return []string{
		"", "ann", "ann ", "ann a", "ann a=2", "ann c=0", "ann a=0|", "ann a=0|a=0", "ann  a=0", "ann a=00", "annie a=0",
		" ", "a=0", " a=0", "=", "|", ",", " ann a=0", "ann a=0 ", "ann\ta=0", "ann\na=0", "ann a=0\n", "ann a=0\x00", "ann,a=0",
		"Ann a=0", "ANN a=0", "an1 a=0", "\xff a=0", "a-b a=0",
		"ann =0", "ann a=", "ann =", "ann a==0", "ann a=0=0", "ann a =0", "ann a= 0", "ann A=0", "ann ab=0", "ann ann=0", "ann 0=a", "ann a0", "ann a:0",
		"ann a=-0", "ann a=+0", "ann a=01", "ann a=3", "ann a=10", "ann a=x", "ann a=0x0", "ann a=0.0", "ann a=\xff", "ann a=18446744073709551616",
		"ann a=0,b=0", "ann a=0 b=0", "ann a=0 |b=0", "ann a=0| b=0", "ann a=0||b=0", "ann |b=0", "ann a|b=0", "ann a=0|b", "ann a=0|b=", "ann a=0|=0", "ann a=0|b=2", "ann a=0|c=0",
		"ann a=0|b=0,", "ann a=0|,b=0", "ann a=0|b=0,,", "ann a=0|b=0,b=0", "ann a=0|b=0,b=1", "ann a=0|a=1", "ann a=0|b=0,a=0", "ann a=0|b=0|b=1", "ann a=0|b=0 ", "ann a=0|b=0;b=1", "ann a=0|b=0, a=0",
	}
}

// P6, P1: what is no request is ERR syntax, also of a client that there is
// not, and costs nothing.
func TestAskSyntax(t *testing.T) {
	s := newServer(t, exampleConfig, exampleRows(), zeroDraws(6))
	for _, text := range noRequests() {
		checkAsk(t, s, text, "ERR syntax")
		checkAsk(t, s, strings.Replace(text, "ann", "eve", 1), "ERR syntax")
	}
	checkBooks(t, s, "", 0, 0, 3)
	checkAsk(t, s, "ann a=0", "OK 3/5")
}

// P6: texts of MaxLine bytes and one more; no request is as long as that.
func TestAskLongTexts(t *testing.T) {
	s := newServer(t, exampleConfig, exampleRows(), zeroDraws(6))
	for _, size := range []int{api.MaxLine - 1, api.MaxLine, api.MaxLine + 1, 1 << 20} {
		for _, filler := range []string{" ", "0", "a", ",b=0", "|", "b=0,"} {
			for _, start := range []string{"ann a=0", "ann a=0|b=0", "ann a=", "ann ", "eve a=0|"} {
				text := start + strings.Repeat(filler, size)
				checkAsk(t, s, text[:size], "ERR syntax")
			}
		}
	}
	checkBooks(t, s, "", 0, 0, 3)
}

// P6: the longest names and the longest request that there is.
func TestAskLongestNames(t *testing.T) {
	s := newServer(t, "noise 1\nbudget 5\nvar aaaa 3\nvar bbbb 3\nvar cccc 3\nvar dddd 3\nvar eeee 3\nclient wxyz 5\n", nil, zeroDraws(15))
	checkAsk(t, s, "wxyz aaaa=2|bbbb=2,cccc=2,dddd=2,eeee=2", "OK 1/3")
	checkAsk(t, s, "wxyz eeee=2|dddd=2,cccc=2,bbbb=2,aaaa=3", "ERR syntax")
	checkAsk(t, s, "wxyzz aaaa=2", "ERR syntax")
	checkAsk(t, s, "wxyz aaaaa=2", "ERR syntax")
	checkAsk(t, s, "wxy aaaa=2", "ERR client")
	if spent, left := s.Spent("wxyz"), s.Left(); spent != 5 || left != 0 {
		t.Errorf("spent %d, left %d, want 5 and 0", spent, left)
	}
}

// looksLikeRequest has the form of a request of the example's config.
var looksLikeRequest = regexp.MustCompile(`^([a-z]{1,4}) ([ab])=[01](\|([ab])=[01])?$`)

// P6: requests that are spoilt at a place or two.
func TestAskSpoiltRequests(t *testing.T) {
	r := rand.New(rand.NewSource(13))
	pieces := []string{"", "", " ", "=", "|", ",", "0", "1", "2", "a", "b", "c", "ann", "bob", "eve", "|b=0", ",a=1", "A"}
	requests := []string{"ann a=0", "bob b=1|a=0", "ann a=1|b=1"}
	s := newServer(t, "noise 1\nbudget 9\nvar a 2\nvar b 2 a\nclient ann 9\nclient bob 9\n", exampleRows(), zeroDraws(6))
	taken := 0
	for i := range 20000 {
		text := spoil(r, requests[i%3], pieces)
		if r.Intn(2) == 0 {
			text = spoil(r, text, pieces)
		}
		want := "ERR syntax"
		if parts := looksLikeRequest.FindStringSubmatch(text); parts != nil && parts[2] != parts[4] {
			want = "ERR client"
			if parts[1] == "ann" || parts[1] == "bob" {
				want = "OK "
				taken++
			}
		}
		if got := s.Ask(text); !strings.HasPrefix(got, want) {
			t.Errorf("Ask(%q) = %q, want %q", text, got, want)
		}
	}
	if taken < 500 {
		t.Errorf("%d of 20000 texts were requests: too few to tell", taken)
	}
}

// P6, P1: ERR client comes ahead of ERR budget, and costs nothing.
func TestAskClient(t *testing.T) {
	s := newServer(t, "noise 1\nbudget 0\nvar a 2\nvar b 2 a\nclient ann 0\nclient bob 0\n", nil, "")
	for _, name := range []string{"eve", "an", "nn", "anna", "a", "b", "var"} {
		checkAsk(t, s, name+" a=0", "ERR client")
		checkAsk(t, s, name+" a=0|b=1", "ERR client")
		checkAsk(t, s, name+" a=2", "ERR syntax")
	}
	checkAsk(t, s, "ann a=0", "ERR budget")
	checkBooks(t, s, "", 0, 0, 0)
}

// P6, P1: a client's budget that just suffices, and one that is 1 short; ERR
// budget changes nothing, and comes ahead of ERR entropy.
func TestAskClientBudget(t *testing.T) {
	const head = "noise 1\nbudget 9\nvar a 2\nvar b 2 a\nvar c 2 b\nclient bob 9\n"
	s := newServer(t, head+"client ann 3\n", nil, zeroDraws(10))
	checkAsk(t, s, "ann c=0", "OK 1/2")
	checkBooks(t, s, "ann:3,3;", 3, 0, 6)
	s = newServer(t, head+"client ann 2\n", nil, "")
	checkAsk(t, s, "ann c=0", "ERR budget")
	checkAsk(t, s, "ann c=0", "ERR budget")
	checkBooks(t, s, "", 0, 0, 9)
	s = newServer(t, head+"client ann 2\n", nil, zeroDraws(10))
	checkAsk(t, s, "ann c=0", "ERR budget")
	checkAsk(t, s, "bob c=0", "OK 1/2")
	checkAsk(t, s, "ann c=0", "ERR budget")
	checkAsk(t, s, "ann b=0", "OK 1/2")
	checkBooks(t, s, "bob:3,3;ann:2,0;", 2, 3, 6)
	checkAsk(t, s, "ann c=0", "ERR budget")
	checkAsk(t, s, "ann a=0|b=1", "OK 1/2")
	checkBooks(t, s, "bob:3,3;ann:2,0;", 2, 3, 6)
	s = newServer(t, head+"client ann 0\n", nil, zeroDraws(10))
	checkAsk(t, s, "ann a=0", "ERR budget")
	checkBooks(t, s, "", 0, 0, 9)
}

// P6, P1: the same of the common budget.
func TestAskCommonBudget(t *testing.T) {
	const tail = "var a 2\nvar b 2 a\nvar c 2 b\nclient ann 9\nclient bob 9\n"
	s := newServer(t, "noise 1\nbudget 3\n"+tail, nil, zeroDraws(10))
	checkAsk(t, s, "ann c=0", "OK 1/2")
	checkBooks(t, s, "ann:3,3;", 3, 0, 0)
	checkAsk(t, s, "bob c=0", "OK 1/2")
	checkBooks(t, s, "ann:3,3;bob:3,0;", 3, 3, 0)
	s = newServer(t, "noise 1\nbudget 2\n"+tail, nil, "")
	checkAsk(t, s, "ann c=0", "ERR budget")
	checkBooks(t, s, "", 0, 0, 2)
	s = newServer(t, "noise 1\nbudget 2\n"+tail, nil, zeroDraws(10))
	checkAsk(t, s, "ann a=0", "OK 1/2")
	checkAsk(t, s, "bob c=0", "ERR budget")
	checkBooks(t, s, "ann:1,1;", 1, 0, 1)
	checkAsk(t, s, "bob b=0", "OK 1/2")
	checkBooks(t, s, "ann:1,1;bob:2,1;", 1, 2, 0)
	checkAsk(t, s, "ann c=0", "ERR budget")
	checkAsk(t, s, "ann b=0", "OK 1/2")
	checkBooks(t, s, "ann:1,1;bob:2,1;ann:1,0;", 2, 2, 0)
	s = newServer(t, "noise 1\nbudget 0\n"+tail, nil, zeroDraws(10))
	checkAsk(t, s, "ann a=0", "ERR budget")
	checkBooks(t, s, "", 0, 0, 0)
}

// P6: a request needs the tables of its evidence too, and of all parents, and
// no others.
func TestAskNeeds(t *testing.T) {
	const config = "noise 1\nbudget 9\nvar a 2\nvar b 2\nvar c 2 a b\nvar d 2 c\nvar e 2\nclient ann 9\n"
	for _, c := range []struct {
		request string
		cost    string
	}{
		{"ann a=0", "1"}, {"ann b=0", "1"}, {"ann c=0", "3"}, {"ann d=0", "4"}, {"ann e=0", "1"},
		{"ann a=0|b=1", "2"}, {"ann a=0|c=1", "3"}, {"ann a=0|d=1", "4"}, {"ann e=0|a=1", "2"}, {"ann e=0|d=1", "5"}, {"ann d=0|e=1", "5"}, {"ann a=1|b=1,e=1", "3"},
	} {
		s := newServer(t, config, nil, zeroDraws(20))
		if got := s.Ask(c.request); !strings.HasPrefix(got, "OK ") {
			t.Errorf("Ask(%q) = %q", c.request, got)
		}
		if want := "ann:" + c.cost + "," + c.cost + ";"; s.Journal() != want {
			t.Errorf("the journal behind Ask(%q) is %q, want %q", c.request, s.Journal(), want)
		}
	}
}

// P6: draws above 0 and below; a cell that they bring below 0 is 1.
func TestAskNoise(t *testing.T) {
	config := "noise 1\nbudget 9\nvar a 3\nclient ann 9\n"
	rows := []string{"0", "0", "0", "1", "1", "1", "2"}
	for _, c := range []struct {
		tape string
		want [3]string
	}{
		{"11" + "11" + "11", [3]string{"OK 2/5", "OK 2/5", "OK 1/5"}},
		{"011" + "101" + "11", [3]string{"OK 1/2", "OK 3/10", "OK 1/5"}},
		{"00011" + "10001" + "11", [3]string{"OK 7/10", "OK 1/10", "OK 1/5"}},
		{"11" + "1000001" + "101", [3]string{"OK 2/3", "OK 1/6", "OK 1/6"}},
		{"0101" + "001001" + "0001001", [3]string{"OK 4/11", "OK 4/11", "OK 3/11"}},
	} {
		s := newServer(t, config, rows, c.tape)
		for value, want := range c.want {
			checkAsk(t, s, "ann a="+string(rune('0'+value)), want)
		}
	}
}

// P6: noise is drawn with the config's k.
func TestAskNoiseOfConfig(t *testing.T) {
	for k, tape := range []string{"", "011" + "11", "01" + "11" + "11" + "1111", "011" + "111" + "111" + "111111", "0111" + "1111" + "1111" + "11111111"} {
		if k == 0 {
			continue
		}
		config := "noise " + string(rune('0'+k)) + "\nbudget 9\nvar a 2\nclient ann 9\n"
		checkAsk(t, newServer(t, config, nil, tape), "ann a=0", "OK 2/3")
		checkAsk(t, newServer(t, config, nil, tape[:len(tape)-1]), "ann a=0", "ERR entropy")
	}
}

// P6: tables are drawn in the order of their variables, not of the request,
// and only once.
func TestAskDrawsInOrder(t *testing.T) {
	const config = "noise 1\nbudget 9\nvar a 2\nvar b 2\nvar c 2\nclient ann 9\nclient bob 9\n"
	tape := "011" + "11" + "0011" + "11" + "00011" + "11"
	for _, requests := range [][]string{
		{"ann a=0|b=0,c=0"}, {"ann c=0|b=0,a=0"}, {"ann b=0|c=0,a=0"}, {"ann a=0", "ann b=0", "ann c=0"}, {"ann b=0|a=0", "bob c=0|b=0"}, {"bob a=0", "bob a=0", "ann a=0", "ann c=1|b=1"},
	} {
		s := newServer(t, config, nil, tape)
		for _, request := range requests {
			if got := s.Ask(request); !strings.HasPrefix(got, "OK ") {
				t.Errorf("Ask(%q) = %q", request, got)
			}
		}
		for range 2 {
			checkAsk(t, s, "bob a=0", "OK 2/3")
			checkAsk(t, s, "bob b=0", "OK 3/4")
			checkAsk(t, s, "bob c=0", "OK 4/5")
		}
	}
	s := newServer(t, config, nil, tape)
	checkAsk(t, s, "ann c=0", "OK 2/3")
	checkAsk(t, s, "ann a=0", "OK 3/4")
	checkAsk(t, s, "ann b=0", "OK 4/5")
	checkBooks(t, s, "ann:1,1;ann:1,1;ann:1,1;", 3, 0, 6)
}

// P6: the tape ends while a table is drawn: the charge stays, and the server
// is halted, ahead of every other answer.
func TestAskEntropy(t *testing.T) {
	whole := zeroDraws(6)
	for bits := range len(whole) {
		s := newServer(t, exampleConfig, exampleRows(), whole[:bits])
		checkAsk(t, s, "ann b=0", "ERR entropy")
		for _, request := range []string{"ann b=0", "ann a=0", "bob a=0", "eve a=0", "", "x", strings.Repeat("a", 100)} {
			checkAsk(t, s, request, "ERR halted")
		}
		checkBooks(t, s, "ann:2,2;", 2, 0, 1)
	}
	s := newServer(t, exampleConfig, exampleRows(), whole)
	checkAsk(t, s, "ann b=0", "OK 13/30")
	checkBooks(t, s, "ann:2,2;", 2, 0, 1)
}

// P6: a tape that ends behind some tables answers of these until more is
// needed; of what was drawn then nothing can be asked any more.
func TestAskEntropyLater(t *testing.T) {
	s := newServer(t, exampleConfig, exampleRows(), zeroDraws(2)+"11"+"0")
	checkAsk(t, s, "ann a=0", "OK 3/5")
	checkAsk(t, s, "bob a=1", "OK 2/5")
	checkAsk(t, s, "bob b=1", "ERR entropy")
	checkBooks(t, s, "ann:1,1;bob:1,0;bob:1,1;", 1, 2, 1)
	checkAsk(t, s, "ann a=0", "ERR halted")
	checkAsk(t, s, "bob b=1", "ERR halted")
	checkBooks(t, s, "ann:1,1;bob:1,0;bob:1,1;", 1, 2, 1)
}

// P6: a draw that takes the whole of the longest tape.
func TestAskLongestTape(t *testing.T) {
	config := "noise 1\nbudget 9\nvar a 2\nclient ann 9\n"
	tape := strings.Repeat("0", api.MaxTape-4) + "1111"
	s := newServer(t, config, []string{"0", "1", "1"}, tape)
	checkAsk(t, s, "ann a=1", "OK 3/100001")
	s = newServer(t, config, nil, "0"+tape[:api.MaxTape-1])
	checkAsk(t, s, "ann a=1", "ERR entropy")
}

// P7: tables with no parent, one and two, of two values and three; the cells
// stand in the order of the first parent's values, its own last.
func TestAskTables(t *testing.T) {
	config := "noise 1\nbudget 9\nvar x 2\nvar y 3\nvar z 2 y x\nclient bob 9\n"
	// The cells of x are 1, 2, of y 1, 1, 3, of z's table 1 to 12.
	tape := "11" + "011" + "11" + "11" + "0011"
	for i := range 12 {
		tape += strings.Repeat("0", i) + "11"
	}
	s := newServer(t, config, nil, tape)
	for _, c := range [][2]string{
		{"z=0|y=0,x=0", "1/3"}, {"z=1|y=0,x=0", "2/3"}, {"z=0|y=0,x=1", "3/7"}, {"z=0|x=0,y=1", "5/11"},
		{"z=0|x=1,y=1", "7/15"}, {"z=0|y=2,x=0", "9/19"}, {"z=1|x=1,y=2", "12/23"},
		{"x=0", "1/3"}, {"x=1", "2/3"}, {"y=0", "1/5"}, {"y=2", "3/5"}, {"x=1|y=2", "2/3"}, {"y=2|x=0", "3/5"},
		{"z=1|x=0", "350/627"}, {"y=0|x=0,z=1", "209/875"}, {"y=2|z=1,x=0", "99/175"},
	} {
		checkAsk(t, s, "bob "+c[0], "OK "+c[1])
	}
}

// P6, P7: an answer of many digits is written whole, as a reduced fraction.
func TestAskBigAnswer(t *testing.T) {
	config := "noise 1\nbudget 9\nvar a 3\nvar b 3 a\nvar c 3 a b\nvar d 3 b c\nvar e 3 c d\nclient bob 9\n"
	r := rand.New(rand.NewSource(17))
	var tape strings.Builder
	for range 3 + 9 + 27*3 {
		tape.WriteString(geometricTape(r, 1, r.Intn(1000)) + geometricTape(r, 1, r.Intn(50)))
	}
	s := newServer(t, config, []string{"0,1,2,0,1"}, tape.String())
	answer := s.Ask("bob e=2|a=1")
	text, _ := strings.CutPrefix(answer, "OK ")
	value, ok := new(big.Rat).SetString(text)
	if !ok || len(text) < 100 || value.RatString() != text {
		t.Errorf("Ask = %q, want a long reduced fraction", answer)
	}
}

// P8: Spent of texts that are no client's name.
func TestSpentOfNobody(t *testing.T) {
	s := newServer(t, exampleConfig, exampleRows(), zeroDraws(6))
	checkAsk(t, s, "ann b=0", "OK 13/30")
	for _, name := range []string{"", "eve", "an", "annn", "ann ", "ann:", "ann:2", "ann:2,2;", "Ann", ":", ";", "\xff", "a", strings.Repeat("ann", 1<<16)} {
		if got := s.Spent(name); got != 0 {
			t.Errorf("Spent(%.40q) = %d, want 0", name, got)
		}
	}
}

// P8: what Spent, Left and Journal tell changes nothing.
func TestTellingChangesNothing(t *testing.T) {
	s := newServer(t, exampleConfig, exampleRows(), zeroDraws(6))
	for range 3 {
		checkBooks(t, s, "", 0, 0, 3)
	}
	checkAsk(t, s, "bob a=0", "OK 3/5")
	for range 3 {
		checkBooks(t, s, "bob:1,1;", 0, 1, 2)
	}
}

// P2: servers do not hang on each other, whether they work in turn or beside
// each other.
func TestServersAreApart(t *testing.T) {
	requests := []string{"ann a=0", "bob b=1|a=0", "ann b=1", "eve a=0", "bob a=1", "ann b=0", "x"}
	talk := func() []string {
		s, _ := murmur.New(exampleConfig, exampleRows(), "011"+"1001"+"11"+"00011"+"11"+"0101")
		var answers []string
		for _, request := range requests {
			answers = append(answers, s.Ask(request), s.Journal())
		}
		return answers
	}
	first := talk()
	var group sync.WaitGroup
	for range 8 {
		group.Go(func() {
			for range 20 {
				if again := talk(); !slices.Equal(again, first) {
					t.Errorf("answers %q, were %q", again, first)
				}
			}
		})
	}
	group.Wait()
}
