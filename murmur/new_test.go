package murmur_test

import (
	"math/rand"
	"regexp"
	"slices"
	"strings"
	"testing"

	"murmur/api"
	"murmur/murmur"
)

// exampleConfig is the config of the document's examples.
const exampleConfig = "noise 1\nbudget 3\nvar a 2\nvar b 2 a\nclient ann 2\nclient bob 9\n"

func exampleRows() []string { return []string{"0,0", "0,1", "1,1", "0,2"} }

// zeroDraws is a tape of that many draws of 0, for noise 1.
func zeroDraws(n int) string { return strings.Repeat("11", n) }

func newServer(t *testing.T, config string, rows []string, tape string) *murmur.Server {
	t.Helper()
	s, err := murmur.New(config, rows, tape)
	if s == nil || err != api.OK {
		t.Fatalf("New(%q) = %v, %d, want a server", config, s, err)
	}
	return s
}

func checkNew(t *testing.T, config string, rows []string, tape string, want api.Errno) {
	t.Helper()
	s, err := murmur.New(config, rows, tape)
	if err != want || (s != nil) != (want == api.OK) {
		t.Errorf("New(%.200q, %d rows, a tape of %d) = %v, %d, want %d", config, len(rows), len(tape), s != nil, err, want)
	}
}

// P5: texts that are configs, at the limits.
func TestNewTakesConfigs(t *testing.T) {
	for _, config := range []string{
		exampleConfig,
		"noise 1\nbudget 0\nvar a 2\nclient u 0\n",
		"noise 4\nbudget 1000\nvar a 3\nclient u 1000\n",
		"noise 2\nbudget 999\nvar wxyz 3\nclient wxyz 10\n",
		"noise 3\nbudget 1\nvar a 2\nvar b 2\nvar c 2\nvar d 2\nvar e 2\nclient u 0\n",
		"noise 3\nbudget 1\nvar a 2\nclient a 0\nclient b 0\nclient c 0\nclient d 0\n",
		"noise 1\nbudget 1\nvar a 2\nvar b 3 a\nvar c 2 a b\nvar d 2 c a\nvar e 3 d b\nclient u 0\n",
		"noise 1\nbudget 1\nvar var 2\nvar clie 2 var\nclient var 0\nclient bud 0\n",
		"noise 4\nbudget 1000\nvar aaaa 3\nvar bbbb 3 aaaa\nvar cccc 3 aaaa bbbb\nvar dddd 3 bbbb cccc\nvar eeee 3 cccc dddd\nclient aaaa 1000\nclient bbbb 1000\nclient cccc 1000\nclient dddd 1000\n",
	} {
		checkNew(t, config, nil, "", api.OK)
	}
}

// noConfigs are texts that are not quite a config.
func noConfigs() []string {
	const start, variable, end = "noise 1\nbudget 1\n", "var a 2\n", "client u 0\n"
	texts := []string{
		"", "\n", "x", "noise 1", "noise 1\n", start, start + variable, start + end, start + end + variable,
		start + variable + "client u 0", start + variable + end + "\n", "\n" + start + variable + end, start + "\n" + variable + end, start + variable + "\n" + end,
		start + variable + end + variable, start + variable + end + "var b 2\n", start + variable + end + "client v", start + variable + end + "x\n", start + variable + end + "\x00",
		"budget 1\nnoise 1\n" + variable + end, "noise 1\n" + variable + end, "budget 1\n" + variable + end, "noise 1\nnoise 1\nbudget 1\n" + variable + end, "noise 1\nbudget 1\nbudget 1\n" + variable + end,
		strings.ReplaceAll(start+variable+end, "\n", "\r\n"), strings.ReplaceAll(start+variable+end, " ", "\t"), strings.ToUpper(start + variable + end), strings.ReplaceAll(start+variable+end, "\n", ";"),
		start + "var a 2\nvar b 2\nvar c 2\nvar d 2\nvar e 2\nvar f 2\n" + end,
		start + variable + "client u 0\nclient v 0\nclient w 0\nclient x 0\nclient y 0\n",
		start + variable + variable + end, start + "var a 2\nvar a 3\n" + end, start + variable + end + end, start + variable + "client u 0\nclient u 1\n",
	}
	for _, line := range []string{"noise", "noise ", "noise 0", "noise 5", "noise 10", "noise 01", "noise -1", "noise +1", "noise 1 ", " noise 1", "noise  1", "noise 1 1", "noise a", "noise 1.0", "noise 18446744073709551617", "noises 1", "nois 1", "noise1", "Noise 1"} {
		texts = append(texts, line+"\nbudget 1\n"+variable+end)
	}
	for _, line := range []string{"budget", "budget ", "budget 1001", "budget 01", "budget 00", "budget -1", "budget -0", "budget +1", "budget 1 ", " budget 1", "budget  1", "budget 1 1", "budget a", "budget 10000", "budget 18446744073709551616", "budget1"} {
		texts = append(texts, "noise 1\n"+line+"\n"+variable+end)
	}
	for _, line := range []string{"var", "var ", "var b", "var b ", "var  2", "var 2", "var b 0", "var b 1", "var b 4", "var b 02", "var b -2", "var b a", "var b 2 ", " var b 2", "var  b 2", "var b  2", "var b 2  a", "var b 2 a ", "var b 2,a", "var abcde 2", "var B 2", "var b1 2", "var a 2", "var b 2 b", "var b 2 c", "var b 2 a a", "var b 2 A", "var b 2 2", "var b 2 u", "var b 2 a c", "vars b 2", "var b 18446744073709551618"} {
		texts = append(texts, start+variable+line+"\n"+end)
	}
	texts = append(texts, start+"var a 2\nvar b 2\nvar c 2\nvar d 2 a b c\n"+end, start+"var a 2\nvar b 2\nvar c 2\nvar d 2 a b a\n"+end, start+"var b 2 a\nvar a 2\n"+end)
	for _, line := range []string{"client", "client ", "client v", "client v ", "client  1", "client 1", "client v 1001", "client v 01", "client v -1", "client v a", "client v 1 ", " client v 1", "client  v 1", "client v  1", "client v 1 1", "client vwxyz 1", "client V 1", "client u 1", "client v 18446744073709551616", "clients v 1", "Client v 1"} {
		texts = append(texts, start+variable+end+line+"\n")
	}
	return texts
}

// P5, P1: texts that are no config are ErrText, whatever the rows are.
func TestNewRefusesTexts(t *testing.T) {
	for _, text := range noConfigs() {
		checkNew(t, text, nil, "", api.ErrText)
		checkNew(t, text, make([]string, api.MaxRows+1), "11", api.ErrText)
		checkNew(t, text, nil, "2", api.ErrText)
	}
}

// P5: texts of MaxConfig bytes and one more; no config is as long as that, and
// a text that goes on behind a config's end is none.
func TestNewLongTexts(t *testing.T) {
	for _, size := range []int{api.MaxConfig - 1, api.MaxConfig, api.MaxConfig + 1, 1 << 20} {
		for _, filler := range []string{"\n", " ", "0", "a", "client v 0\n", "var c 2\n"} {
			long := exampleConfig + strings.Repeat(filler, size)
			checkNew(t, long[:size], nil, "", api.ErrText)
			checkNew(t, long[:size-1]+"\n", nil, "", api.ErrText)
		}
		head := "noise 1\nbudget 1\nvar a 2\nclient u "
		checkNew(t, head+strings.Repeat("0", size-len(head)-2)+"1\n", nil, "", api.ErrText)
		checkNew(t, head+strings.Repeat("1", size-len(head)-1)+"\n", nil, "", api.ErrText)
	}
}

// looksLikeConfig has the lines and numbers of a config, not what holds
// between lines.
var looksLikeConfig = regexp.MustCompile(`^noise [1-4]\nbudget (0|[1-9][0-9]{0,2}|1000)\n(var [a-z]{1,4} [23]( [a-z]{1,4}){0,2}\n){1,5}(client [a-z]{1,4} (0|[1-9][0-9]{0,2}|1000)\n){1,4}$`)

// isConfig is a recognizer made another way than the program's.
func isConfig(text string) bool {
	if len(text) > api.MaxConfig || !looksLikeConfig.MatchString(text) {
		return false
	}
	var variables, clients []string
	for line := range strings.Lines(text) {
		parts := strings.Fields(line)
		if parts[0] == "client" {
			clients = append(clients, parts[1])
		}
		if parts[0] != "var" {
			continue
		}
		if len(parts) == 5 && parts[3] == parts[4] {
			return false
		}
		for _, parent := range parts[3:] {
			if !slices.Contains(variables, parent) {
				return false
			}
		}
		variables = append(variables, parts[1])
	}
	return allDifferent(variables) && allDifferent(clients)
}

func allDifferent(names []string) bool {
	slices.Sort(names)
	return len(slices.Compact(names)) == len(names)
}

// spoil changes a text at one random place.
func spoil(r *rand.Rand, text string, pieces []string) string {
	from := r.Intn(len(text) + 1)
	to := min(len(text), from+r.Intn(3))
	return text[:from] + pieces[r.Intn(len(pieces))] + text[to:]
}

// P5: configs that are spoilt at one or two places are told apart from those
// that are still configs.
func TestNewSpoiltConfigs(t *testing.T) {
	r := rand.New(rand.NewSource(11))
	pieces := []string{"", "", " ", "\n", "0", "1", "2", "3", "a", "b", "u", "ab", " a", " b", "00", "-", "\t", "A", "var c 2\n", "client v 1\n", "var", "client"}
	configs := []string{exampleConfig, "noise 4\nbudget 1000\nvar a 3\nvar b 2 a\nvar c 2 b a\nvar d 2\nvar e 3 c\nclient a 1000\nclient b 1\n"}
	taken := 0
	for i := range 20000 {
		text := spoil(r, configs[i%2], pieces)
		if r.Intn(2) == 0 {
			text = spoil(r, text, pieces)
		}
		want := api.ErrText
		if isConfig(text) {
			want = api.OK
			taken++
		}
		checkNew(t, text, nil, "", want)
	}
	if taken < 500 || taken > 19500 {
		t.Errorf("%d of 20000 texts were configs: too few or too many to tell", taken)
	}
}

// P5: a tape of MaxTape bits, one more, and other bytes.
func TestNewTapes(t *testing.T) {
	for _, tape := range []string{"", "0", "1", "0110", strings.Repeat("0", api.MaxTape), strings.Repeat("1", api.MaxTape)} {
		checkNew(t, exampleConfig, nil, tape, api.OK)
	}
	for _, tape := range []string{"2", "/", " ", "1 ", " 1", "1\n", "012", "0x1", "\x00", "\xff", "１", strings.Repeat("1", api.MaxTape+1), strings.Repeat("0", api.MaxTape-1) + "2", strings.Repeat("1", 1<<20)} {
		checkNew(t, exampleConfig, nil, tape, api.ErrText)
		checkNew(t, exampleConfig, make([]string, api.MaxRows+1), tape, api.ErrText)
		checkNew(t, "", nil, tape, api.ErrText)
	}
}

// P5: MaxRows rows and one more; rows are counted as they are handed in, also
// those that are none.
func TestNewRowLimit(t *testing.T) {
	rows := slices.Repeat([]string{"1,0"}, api.MaxRows+1)
	checkNew(t, exampleConfig, rows, "", api.ErrArg)
	checkNew(t, exampleConfig, rows[:api.MaxRows], "", api.OK)
	checkNew(t, exampleConfig, make([]string, api.MaxRows+1), "11", api.ErrArg)
	checkNew(t, exampleConfig, make([]string, api.MaxRows), "11", api.OK)
	checkNew(t, exampleConfig, make([]string, 1<<16), "11", api.ErrArg)
	s := newServer(t, exampleConfig, rows[:api.MaxRows], zeroDraws(6))
	checkAsk(t, s, "bob a=1", "OK 201/202")
	checkAsk(t, s, "bob b=0|a=1", "OK 201/202")
}

// P5: what is no row is left out; of the rows each counts.
func TestNewRows(t *testing.T) {
	noRows := []string{
		"", ",", "0", "0,", ",0", "0,0,", ",0,0", "0,0,0", "0,,0", "0,2", "2,0", "0,3", "9,9", "00,0", "0,00", "01,0", "0,01",
		" 0,0", "0 ,0", "0, 0", "0,0 ", "0,0\n", "\n0,0", "-0,0", "0,-0", "+1,0", "0;0", "0 0", "0.0", "a,0", "0,b", "a,b", "0,\x00", "0,\xff", "0,１",
		"18446744073709551616,0", "0,18446744073709551617", strings.Repeat("0", 1000) + ",0", strings.Repeat("0,", 1000) + "0", strings.Repeat(",", 1<<20),
	}
	for _, text := range noRows {
		s := newServer(t, exampleConfig, []string{"0,0", text, "1,1", "1,1", text}, zeroDraws(6))
		checkAsk(t, s, "bob a=0", "OK 2/5")
		checkAsk(t, s, "bob b=0|a=0", "OK 2/3")
		checkAsk(t, s, "bob b=0|a=1", "OK 1/4")
	}
	s := newServer(t, "noise 1\nbudget 9\nvar a 3\nclient bob 9\n", []string{"0", "1", "2", "2", "3", "2,", "2,2", ""}, zeroDraws(3))
	checkAsk(t, s, "bob a=0", "OK 2/7")
	checkAsk(t, s, "bob a=1", "OK 2/7")
	checkAsk(t, s, "bob a=2", "OK 3/7")
}

// P2: the list of rows is not changed, and what becomes of it later does not
// count.
func TestNewKeepsNoList(t *testing.T) {
	rows := exampleRows()
	s := newServer(t, exampleConfig, rows, zeroDraws(6))
	if !slices.Equal(rows, exampleRows()) {
		t.Errorf("the rows are %q behind New", rows)
	}
	for i := range rows {
		rows[i] = "1,1"
	}
	checkAsk(t, s, "bob a=0", "OK 3/5")
	if rows[0] != "1,1" {
		t.Errorf("the first row is %q behind Ask", rows[0])
	}
}

// P1: no text or number makes New or a method panic.
func FuzzNew(f *testing.F) {
	f.Add(exampleConfig, "0,0", "1111", "ann a=0", 0, 7)
	f.Add("noise 2\nbudget 9\nvar x 2\nvar y 3\nvar z 2 y x\nclient bob 9\n", "1,2,1", "11011", "bob z=1|x=1,y=2", 1, 8)
	f.Add("noise", ",", "2", "|", -1, -1)
	f.Fuzz(func(t *testing.T, config string, row string, tape string, request string, n int, keep int) {
		s, err := murmur.New(config, []string{row, row}, tape)
		if (s == nil) != (err != api.OK) || isConfig(config) != (err == api.OK) && strings.Trim(tape, "01") == "" && len(tape) <= api.MaxTape {
			t.Errorf("New(%q) = %v, %d", config, s != nil, err)
		}
		if s == nil {
			return
		}
		if failed := s.Fail(n); (failed == api.ErrArg) != (n < 0) {
			t.Errorf("Fail(%d) = %d", n, failed)
		}
		for range 2 {
			answer := s.Ask(request)
			if !strings.HasPrefix(answer, "OK ") && !strings.HasPrefix(answer, "ERR ") {
				t.Errorf("Ask(%q) = %q", request, answer)
			}
			if crashed := s.Crash(keep); (crashed == api.ErrArg) != (keep < 0) {
				t.Errorf("Crash(%d) = %d", keep, crashed)
			}
			if s.Spent(request) != 0 && !regexp.MustCompile(`^[a-z]{1,4}$`).MatchString(request) || s.Left() < 0 {
				t.Errorf("Spent(%q) = %d, Left is %d", request, s.Spent(request), s.Left())
			}
		}
	})
}
