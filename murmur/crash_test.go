package murmur_test

import (
	"math"
	"slices"
	"strings"
	"testing"

	"murmur/api"
	"murmur/murmur"
)

// wideConfig has five tables that do not hang on each other, and budgets that
// are never spent in a test.
const wideConfig = "noise 1\nbudget 1000\nvar a 2\nvar b 2\nvar c 2\nvar d 2\nvar e 2\nclient ann 1000\nclient bob 1000\nclient c 1000\nclient dora 1000\n"

// wideRequests cost something each, in this order and in any other.
func wideRequests() []string {
	var requests []string
	for _, name := range []string{"ann", "bob", "c", "dora"} {
		for _, variable := range []string{"a", "b", "c", "d", "e"} {
			requests = append(requests, name+" "+variable+"=0")
		}
	}
	return requests
}

func checkFail(t *testing.T, s *murmur.Server, n int, want api.Errno) {
	t.Helper()
	if got := s.Fail(n); got != want {
		t.Errorf("Fail(%d) = %d, want %d", n, got, want)
	}
}

func checkCrash(t *testing.T, s *murmur.Server, keep int, want api.Errno) {
	t.Helper()
	if got := s.Crash(keep); got != want {
		t.Errorf("Crash(%d) = %d, want %d", keep, got, want)
	}
}

// checkFailing asks all the wide requests from the first-th on, and holds it
// that just the n-th of these, counted from 0, is ERR store.
func checkFailing(t *testing.T, s *murmur.Server, first int, n int) {
	t.Helper()
	for i, request := range wideRequests()[first:] {
		want := "OK 1/2"
		if i == n {
			want = "ERR store"
		}
		checkAsk(t, s, request, want)
	}
}

// P9, P6: the document's example 5.
func TestCrashExample(t *testing.T) {
	s := newServer(t, exampleConfig, exampleRows(), strings.Repeat("1", 100))
	checkAsk(t, s, "ann a=0", "OK 3/5")
	checkAsk(t, s, "ann b=1", "OK 17/30")
	checkAsk(t, s, "bob a=0|b=1", "OK 9/17")
	checkCrash(t, s, 0, api.OK)
	checkBooks(t, s, "ann:1,1;ann:1,1;bob:2,0;", 2, 2, 1)
	checkAsk(t, s, "ann a=0", "ERR budget")
	checkAsk(t, s, "bob a=0", "OK 3/5")
	checkBooks(t, s, "ann:1,1;ann:1,1;bob:2,0;bob:1,1;", 2, 3, 0)
	checkAsk(t, s, "bob b=0", "ERR budget")
	checkBooks(t, s, "ann:1,1;ann:1,1;bob:2,0;bob:1,1;", 2, 3, 0)
}

// P8, P9: the document's example 6.
func TestFailExample(t *testing.T) {
	for _, c := range []struct {
		keep    int
		journal string
		spent   int
	}{{7, "", 0}, {8, "ann:1,1;", 1}} {
		s := newServer(t, exampleConfig, exampleRows(), strings.Repeat("1", 100))
		checkFail(t, s, 0, api.OK)
		checkAsk(t, s, "ann a=0", "ERR store")
		checkBooks(t, s, "ann:1,1;", 1, 0, 2)
		checkCrash(t, s, c.keep, api.OK)
		checkBooks(t, s, c.journal, c.spent, 0, 3-c.spent)
	}
}

// P8: the n-th sync from now on fails, and no other, at every n.
func TestFailPlaces(t *testing.T) {
	for _, first := range []int{0, 1, 7} {
		for n := range 21 {
			s := newServer(t, wideConfig, nil, zeroDraws(10))
			for _, request := range wideRequests()[:first] {
				checkAsk(t, s, request, "OK 1/2")
			}
			checkFail(t, s, n, api.OK)
			checkFailing(t, s, first, n)
		}
	}
	for _, n := range []int{math.MaxInt, math.MaxInt - 1, math.MaxInt32, math.MaxUint32, 1 << 62} {
		s := newServer(t, wideConfig, nil, zeroDraws(10))
		checkFail(t, s, n, api.OK)
		checkFailing(t, s, 0, -1)
	}
}

// P8, P1: a Fail of a number below 0 is refused; one that is to come keeps its
// place.
func TestFailRefused(t *testing.T) {
	for _, n := range []int{-1, -2, math.MinInt32, math.MinInt + 1, math.MinInt} {
		s := newServer(t, wideConfig, nil, zeroDraws(10))
		checkFail(t, s, n, api.ErrArg)
		checkFailing(t, s, 0, -1)
		s = newServer(t, wideConfig, nil, zeroDraws(10))
		checkFail(t, s, 3, api.OK)
		checkFail(t, s, n, api.ErrArg)
		checkFailing(t, s, 0, 3)
	}
}

// P8: another Fail takes the place of the first, be it earlier or later, and
// is counted from where it was called.
func TestFailReplaced(t *testing.T) {
	for _, pair := range [][2]int{{0, 0}, {0, 1}, {1, 0}, {0, 5}, {5, 0}, {math.MaxInt, 2}, {2, math.MaxInt}} {
		s := newServer(t, wideConfig, nil, zeroDraws(10))
		checkFail(t, s, pair[0], api.OK)
		checkFail(t, s, pair[1], api.OK)
		checkFailing(t, s, 0, pair[1])
	}
	s := newServer(t, wideConfig, nil, zeroDraws(10))
	checkFail(t, s, 2, api.OK)
	checkAsk(t, s, "ann a=0", "OK 1/2")
	checkFail(t, s, 2, api.OK)
	checkFailing(t, s, 1, 2)
	s = newServer(t, wideConfig, nil, zeroDraws(10))
	checkFail(t, s, 0, api.OK)
	checkAsk(t, s, "ann a=0", "ERR store")
	checkFail(t, s, 1, api.OK)
	checkFailing(t, s, 1, 1)
}

// P8, P6: only a sync is counted: no request that is refused or costs nothing,
// and none of the other calls.
func TestFailCountsSyncs(t *testing.T) {
	s := newServer(t, exampleConfig, exampleRows(), zeroDraws(20))
	checkAsk(t, s, "ann a=0", "OK 3/5")
	checkAsk(t, s, "bob a=0", "OK 3/5")
	checkFail(t, s, 1, api.OK)
	for range 5 {
		checkAsk(t, s, "ann a=1", "OK 2/5")
		checkAsk(t, s, "bob a=0", "OK 3/5")
		checkAsk(t, s, "ann", "ERR syntax")
		checkAsk(t, s, "eve a=0", "ERR client")
		checkCrash(t, s, -1, api.ErrArg)
		checkBooks(t, s, "ann:1,1;bob:1,0;", 1, 1, 2)
	}
	checkAsk(t, s, "ann b=0", "OK 13/30")
	for range 5 {
		checkAsk(t, s, "ann b=0", "OK 13/30")
	}
	checkBooks(t, s, "ann:1,1;bob:1,0;ann:1,1;", 2, 1, 1)
	checkAsk(t, s, "bob b=0", "ERR store")
	checkBooks(t, s, "ann:1,1;bob:1,0;ann:1,1;bob:1,0;", 2, 2, 1)
	checkAsk(t, s, "bob b=0", "OK 13/30")
}

// P6, P1: ERR budget comes ahead of ERR store, and leaves the Fail to come;
// ERR store comes ahead of ERR entropy, and halts nothing.
func TestStoreAmongErrors(t *testing.T) {
	s := newServer(t, "noise 1\nbudget 9\nvar a 2\nclient ann 0\nclient bob 9\n", nil, "")
	checkFail(t, s, 0, api.OK)
	checkAsk(t, s, "ann a=0", "ERR budget")
	checkAsk(t, s, "bob a=0", "ERR store")
	checkBooks(t, s, "bob:1,1;", 0, 1, 8)
	checkAsk(t, s, "bob a=2", "ERR syntax")
	checkAsk(t, s, "bob a=0", "ERR entropy")
	checkFail(t, s, 0, api.OK)
	checkAsk(t, s, "bob a=0", "ERR halted")
	checkBooks(t, s, "bob:1,1;bob:1,1;", 0, 2, 7)
}

// P8: behind ERR store nothing was drawn or used: the same request costs the
// same again, for that client and for another, and the tape was not touched.
func TestStoreDrawsNothing(t *testing.T) {
	tape := "011" + "11" + "11" + "0011" + "00011" + "11"
	for _, failing := range []int{1, 2, 3} {
		s := newServer(t, "noise 1\nbudget 9\nvar a 2\nvar b 2 a\nclient ann 9\nclient bob 9\n", nil, tape)
		for range failing {
			checkFail(t, s, 0, api.OK)
			checkAsk(t, s, "ann b=1", "ERR store")
		}
		failed := strings.Repeat("ann:2,2;", failing)
		checkBooks(t, s, failed, 2*failing, 0, 9-2*failing)
		checkAsk(t, s, "bob a=0", "OK 2/3")
		checkAsk(t, s, "ann a=0", "OK 2/3")
		checkBooks(t, s, failed+"bob:1,1;ann:1,0;", 2*failing+1, 1, 8-2*failing)
		checkAsk(t, s, "bob b=1|a=0", "OK 3/4")
		checkAsk(t, s, "bob b=1|a=1", "OK 1/5")
	}
}

// P8: a table that is drawn stays so behind ERR store, and the client's table
// stays used.
func TestStoreKeepsTables(t *testing.T) {
	s := newServer(t, exampleConfig, exampleRows(), zeroDraws(6))
	checkAsk(t, s, "bob a=0", "OK 3/5")
	checkFail(t, s, 0, api.OK)
	checkAsk(t, s, "bob b=0", "ERR store")
	checkAsk(t, s, "bob a=0", "OK 3/5")
	checkBooks(t, s, "bob:1,1;bob:1,1;", 0, 2, 1)
	checkAsk(t, s, "bob b=0", "OK 13/30")
	checkBooks(t, s, "bob:1,1;bob:1,1;bob:1,1;", 0, 3, 0)
}

// storeFails makes these requests end with ERR store.
func storeFails(t *testing.T, s *murmur.Server, requests ...string) {
	t.Helper()
	for _, request := range requests {
		checkFail(t, s, 0, api.OK)
		checkAsk(t, s, request, "ERR store")
	}
}

// P9: of records that are not synced, one behind the other and behind some
// that are, those last that stand whole within the first bytes.
func TestCrashKeeps(t *testing.T) {
	const synced, unsynced = "ann:1,1;bob:1,0;", "c:1,0;dora:2,1;ann:1,1;bob:3,3;"
	for keep := range len(unsynced) + 20 {
		s := newServer(t, wideConfig, nil, zeroDraws(30))
		checkAsk(t, s, "ann a=0", "OK 1/2")
		checkAsk(t, s, "bob a=0", "OK 1/2")
		storeFails(t, s, "c a=0", "dora b=0|a=1", "ann e=0", "bob b=0|c=1,d=1")
		if got := s.Journal(); got != synced+unsynced {
			t.Fatalf("the journal is %q, want %q", got, synced+unsynced)
		}
		lasting := unsynced[:min(keep, len(unsynced))]
		lasting = lasting[:strings.LastIndex(lasting, ";")+1]
		// The second Crash finds all synced that the first has left.
		for _, again := range []int{keep, 0} {
			checkCrash(t, s, again, api.OK)
			if got := s.Journal(); got != synced+lasting {
				t.Errorf("behind Crash(%d) the journal is %q, want %q", again, got, synced+lasting)
			}
			checkJournalSays(t, s, 1000, "ann", "bob", "c", "dora")
		}
	}
}

// P9: a Crash that keeps as much as a number can say.
func TestCrashKeepsAll(t *testing.T) {
	for _, keep := range []int{16, 17, math.MaxInt32, math.MaxUint32, math.MaxInt - 1, math.MaxInt} {
		s := newServer(t, wideConfig, nil, zeroDraws(10))
		storeFails(t, s, "ann a=0", "bob a=0")
		checkCrash(t, s, keep, api.OK)
		checkBooks(t, s, "ann:1,1;bob:1,1;", 1, 1, 998)
	}
}

// P9, P6: behind a Crash that cut records off the next ones are written where
// the journal ends now.
func TestCrashThenWrite(t *testing.T) {
	s := newServer(t, wideConfig, nil, zeroDraws(10))
	storeFails(t, s, "ann a=0", "bob b=0|a=0", "ann c=0")
	checkCrash(t, s, 12, api.OK)
	checkBooks(t, s, "ann:1,1;", 1, 0, 999)
	storeFails(t, s, "dora e=0")
	checkAsk(t, s, "bob c=0|d=1", "OK 1/2")
	checkBooks(t, s, "ann:1,1;dora:1,1;bob:2,2;", 1, 2, 996)
	storeFails(t, s, "ann e=0")
	checkCrash(t, s, 7, api.OK)
	checkBooks(t, s, "ann:1,1;dora:1,1;bob:2,2;", 1, 2, 996)
}

// P8, P9: a sync that does not fail syncs the records ahead of it too.
func TestLaterSync(t *testing.T) {
	s := newServer(t, wideConfig, nil, zeroDraws(10))
	storeFails(t, s, "ann a=0", "bob a=0", "ann b=0")
	checkAsk(t, s, "bob a=0", "OK 1/2")
	// What costs nothing is not synced, and neither is what is refused.
	storeFails(t, s, "ann c=0", "ann d=0")
	checkAsk(t, s, "bob a=0", "OK 1/2")
	checkAsk(t, s, "eve a=0", "ERR client")
	checkBooks(t, s, "ann:1,1;bob:1,1;ann:1,1;bob:1,1;ann:1,1;ann:1,1;", 4, 2, 994)
	checkCrash(t, s, 0, api.OK)
	checkBooks(t, s, "ann:1,1;bob:1,1;ann:1,1;bob:1,1;", 2, 2, 996)
}

// P6, P9: a charge whose draw ended with the tape was synced ahead of it, with
// the records ahead.
func TestEntropySyncs(t *testing.T) {
	s := newServer(t, wideConfig, nil, "111")
	storeFails(t, s, "ann a=0")
	checkAsk(t, s, "bob a=0", "ERR entropy")
	checkCrash(t, s, 0, api.OK)
	checkBooks(t, s, "ann:1,1;bob:1,1;", 1, 1, 998)
}

// P9, P1: a Crash of a number below 0 is refused, and changes nothing: neither
// tables nor what is used, nor a Fail that is to come, nor what is not synced.
func TestCrashRefused(t *testing.T) {
	for _, keep := range []int{-1, -2, -8, math.MinInt32, math.MinInt + 1, math.MinInt} {
		s := newServer(t, exampleConfig, exampleRows(), zeroDraws(2)+"0")
		storeFails(t, s, "ann a=0")
		checkCrash(t, s, keep, api.ErrArg)
		checkBooks(t, s, "ann:1,1;", 1, 0, 2)
		checkCrash(t, s, 0, api.OK)
		checkBooks(t, s, "", 0, 0, 3)
		checkAsk(t, s, "bob a=0", "OK 3/5")
		checkFail(t, s, 0, api.OK)
		checkCrash(t, s, keep, api.ErrArg)
		checkAsk(t, s, "bob a=1", "OK 2/5")
		checkAsk(t, s, "ann a=1", "ERR store")
		checkAsk(t, s, "bob b=1", "ERR entropy")
		checkCrash(t, s, keep, api.ErrArg)
		checkAsk(t, s, "bob a=1", "ERR halted")
		checkBooks(t, s, "bob:1,1;ann:1,0;bob:1,1;", 1, 2, 1)
	}
}

// P9: behind a Crash tables are drawn anew, from where the tape was, and each
// client is charged again.
func TestCrashForgetsTables(t *testing.T) {
	tape := "011" + "11" + "0011" + "11" + "11" + "00011" + "11" + "11" + "101"
	s := newServer(t, "noise 1\nbudget 9\nvar a 2\nvar b 2\nclient ann 9\nclient bob 9\n", nil, tape)
	checkAsk(t, s, "ann a=0", "OK 2/3")
	checkAsk(t, s, "bob a=0", "OK 2/3")
	checkCrash(t, s, 0, api.OK)
	checkAsk(t, s, "bob a=0", "OK 3/4")
	checkBooks(t, s, "ann:1,1;bob:1,0;bob:1,1;", 1, 2, 7)
	checkAsk(t, s, "ann a=0", "OK 3/4")
	checkAsk(t, s, "ann b=0|a=0", "OK 1/5")
	checkBooks(t, s, "ann:1,1;bob:1,0;bob:1,1;ann:1,0;ann:1,1;", 3, 2, 6)
	checkCrash(t, s, 0, api.OK)
	checkCrash(t, s, 100, api.OK)
	checkAsk(t, s, "ann b=0", "OK 1/2")
	checkBooks(t, s, "ann:1,1;bob:1,0;bob:1,1;ann:1,0;ann:1,1;ann:1,1;", 4, 2, 5)
	checkAsk(t, s, "ann a=0", "ERR entropy")
}

// P9: the rows are counted behind a Crash as they were ahead of it.
func TestCrashKeepsCounts(t *testing.T) {
	s := newServer(t, "noise 1\nbudget 1000\nvar a 2\nvar b 2 a\nclient ann 1000\n", exampleRows(), zeroDraws(60))
	for range 10 {
		checkAsk(t, s, "ann a=0", "OK 3/5")
		checkAsk(t, s, "ann b=1", "OK 17/30")
		checkCrash(t, s, 0, api.OK)
	}
}

// P9, P6: a Crash lets a server that is halted go on; the bits of the draws
// that were made are gone, and the tables with them.
func TestCrashOfHalted(t *testing.T) {
	for bits := range len(zeroDraws(6)) {
		s := newServer(t, "noise 1\nbudget 6\nvar a 2\nvar b 2 a\nclient ann 4\nclient bob 9\n", exampleRows(), zeroDraws(6)[:bits])
		checkAsk(t, s, "ann b=0", "ERR entropy")
		checkAsk(t, s, "eve a=0", "ERR halted")
		checkCrash(t, s, 0, api.OK)
		checkBooks(t, s, "ann:2,2;", 2, 0, 4)
		checkAsk(t, s, "", "ERR syntax")
		checkAsk(t, s, "eve a=0", "ERR client")
		checkAsk(t, s, "ann a=0", "ERR entropy")
		checkAsk(t, s, "bob a=0", "ERR halted")
		checkBooks(t, s, "ann:2,2;ann:1,1;", 3, 0, 3)
		checkCrash(t, s, 0, api.OK)
		checkAsk(t, s, "ann b=0", "ERR budget")
		checkFail(t, s, 0, api.OK)
		checkAsk(t, s, "bob b=0", "ERR store")
		checkAsk(t, s, "bob a=0", "ERR entropy")
		checkBooks(t, s, "ann:2,2;ann:1,1;bob:2,2;bob:1,1;", 3, 3, 0)
	}
}

// P9: a Fail that is to come is gone behind a Crash, and one that is called
// behind it counts from there.
func TestCrashTakesFail(t *testing.T) {
	for _, n := range []int{0, 1, 5, math.MaxInt} {
		s := newServer(t, wideConfig, nil, zeroDraws(30))
		checkFail(t, s, n, api.OK)
		checkCrash(t, s, 0, api.OK)
		checkFailing(t, s, 0, -1)
		checkFail(t, s, n, api.OK)
		checkCrash(t, s, 0, api.OK)
		checkFail(t, s, 2, api.OK)
		checkFailing(t, s, 0, 2)
	}
	s := newServer(t, wideConfig, nil, zeroDraws(30))
	checkFail(t, s, 3, api.OK)
	checkAsk(t, s, "ann a=0", "OK 1/2")
	checkCrash(t, s, 0, api.OK)
	checkFailing(t, s, 0, -1)
}

// P8, P9, P6: a client's budget, with a record that is not synced: it just
// suffices, is 1 short, and suffices again when the record was cut off.
func TestBudgetOfClientBehindStore(t *testing.T) {
	const head = "noise 1\nbudget 99\nvar a 2\nvar b 2 a\nclient bob 99\n"
	s := newServer(t, head+"client ann 3\n", nil, zeroDraws(20))
	storeFails(t, s, "ann a=0")
	checkAsk(t, s, "ann b=0", "OK 1/2")
	checkBooks(t, s, "ann:1,1;ann:2,2;", 3, 0, 96)
	s = newServer(t, head+"client ann 2\n", nil, zeroDraws(20))
	storeFails(t, s, "ann a=0")
	checkAsk(t, s, "ann b=0", "ERR budget")
	checkBooks(t, s, "ann:1,1;", 1, 0, 98)
	checkCrash(t, s, 8, api.OK)
	checkAsk(t, s, "ann b=0", "ERR budget")
	s = newServer(t, head+"client ann 2\n", nil, zeroDraws(20))
	storeFails(t, s, "ann a=0", "bob b=0")
	checkAsk(t, s, "ann b=0", "ERR budget")
	checkCrash(t, s, 7, api.OK)
	checkAsk(t, s, "ann b=0", "OK 1/2")
	checkBooks(t, s, "ann:2,2;", 2, 0, 97)
	checkCrash(t, s, 0, api.OK)
	checkAsk(t, s, "ann a=0", "ERR budget")
}

// P8, P9, P6: the same of the common budget.
func TestCommonBudgetBehindStore(t *testing.T) {
	const tail = "var a 2\nvar b 2 a\nclient bob 99\nclient ann 99\n"
	s := newServer(t, "noise 1\nbudget 3\n"+tail, nil, zeroDraws(20))
	storeFails(t, s, "bob a=0")
	checkAsk(t, s, "ann b=0", "OK 1/2")
	checkBooks(t, s, "bob:1,1;ann:2,2;", 2, 1, 0)
	s = newServer(t, "noise 1\nbudget 2\n"+tail, nil, zeroDraws(20))
	storeFails(t, s, "bob a=0")
	checkAsk(t, s, "ann b=0", "ERR budget")
	checkBooks(t, s, "bob:1,1;", 0, 1, 1)
	checkCrash(t, s, 7, api.OK)
	checkAsk(t, s, "ann b=0", "OK 1/2")
	checkBooks(t, s, "ann:2,2;", 2, 0, 0)
	checkCrash(t, s, 0, api.OK)
	checkAsk(t, s, "bob a=0", "ERR budget")
	s = newServer(t, "noise 1\nbudget 2\n"+tail, nil, zeroDraws(20))
	storeFails(t, s, "bob a=0")
	checkCrash(t, s, 8, api.OK)
	checkAsk(t, s, "ann b=0", "ERR budget")
	checkBooks(t, s, "bob:1,1;", 0, 1, 1)
}

// P10: the greatest budgets are spent to the last, and no further, whether
// each sync goes well ahead of a Crash or fails.
func TestBudgetsLast(t *testing.T) {
	for _, failing := range []bool{false, true} {
		s := newServer(t, "noise 1\nbudget 1000\nvar a 2\nclient ann 999\nclient bob 1000\n", nil, zeroDraws(2000))
		ask := func(request string) {
			t.Helper()
			if failing {
				storeFails(t, s, request)
				return
			}
			checkAsk(t, s, request, "OK 1/2")
			checkCrash(t, s, 0, api.OK)
		}
		for range 999 {
			ask("ann a=0")
		}
		checkAsk(t, s, "ann a=0", "ERR budget")
		ask("bob a=0")
		journal := strings.Repeat("ann:1,1;", 999) + "bob:1,1;"
		for range 3 {
			checkAsk(t, s, "ann a=0", "ERR budget")
			checkAsk(t, s, "bob a=0", "ERR budget")
			checkBooks(t, s, journal, 999, 1, 0)
			checkCrash(t, s, math.MaxInt, api.OK)
		}
	}
}

// P2: a Fail and a Crash of one server are none of another's, and the same
// calls are answered the same.
func TestCrashesAreApart(t *testing.T) {
	talk := func(s *murmur.Server) []string {
		var answers []string
		for i, request := range []string{"bob a=0", "ann a=1", "bob b=0", "ann b=1|a=0", "bob a=1", "bob b=1"} {
			answers = append(answers, s.Ask(request), s.Journal())
			if i%2 == 0 {
				s.Fail(0)
			}
			if i == 3 {
				s.Crash(5)
			}
		}
		return answers
	}
	one := newServer(t, exampleConfig, exampleRows(), zeroDraws(20))
	other := newServer(t, exampleConfig, exampleRows(), zeroDraws(20))
	third := newServer(t, exampleConfig, exampleRows(), zeroDraws(20))
	checkAsk(t, third, "ann b=0", "OK 13/30")
	first := talk(one)
	checkFail(t, one, 0, api.OK)
	checkCrash(t, one, 0, api.OK)
	checkFail(t, one, 0, api.OK)
	if second := talk(other); !slices.Equal(first, second) {
		t.Errorf("answers %q, were %q", second, first)
	}
	checkAsk(t, third, "bob b=1", "OK 17/30")
	checkBooks(t, third, "ann:2,2;bob:2,0;", 2, 2, 1)
}
