package murmur_test

import (
	"fmt"
	"maps"
	"math"
	"math/big"
	"math/rand"
	"strings"
	"testing"

	"murmur/api"
	"murmur/murmur"
)

// A model reckons what a server should answer, from the values that the texts
// were made of, in another way than the program does.
type model struct {
	noise, budget int
	values        []int   // of each variable
	parents       [][]int // of each variable
	clients       []int   // their budgets
	rows          [][]int
	tape          string
	tables        map[int]map[string]int // of the drawn tables, by the values
	used          map[[2]int]bool        // by client and variable
	journal       string
	synced        int // bytes of the journal
	failing       int // syncs ahead of the one that fails; below 0, if none does
	halted        bool
}

func variableName(i int) string { return string(rune('p' + i)) }

func clientName(i int) string { return strings.Repeat(string(rune('a'+i)), i+1) }

// randomModel has up to MaxVars variables, with rows and a tape to fit.
func randomModel(r *rand.Rand) *model {
	m := &model{noise: 1 + r.Intn(api.MaxNoise), budget: r.Intn([]int{8, 400}[r.Intn(2)])}
	m.crash(0)
	for i := range 1 + r.Intn(api.MaxVars) {
		m.values = append(m.values, 2+r.Intn(2))
		m.parents = append(m.parents, r.Perm(i)[:min(i, r.Intn(api.MaxParents+1))])
	}
	for range 1 + r.Intn(api.MaxClients) {
		m.clients = append(m.clients, r.Intn([]int{9, 300}[r.Intn(2)]))
	}
	for range r.Intn(12) {
		var row []int
		for _, values := range m.values {
			row = append(row, r.Intn(values))
		}
		m.rows = append(m.rows, row)
	}
	var tape strings.Builder
	for range r.Intn([]int{100, 4000}[r.Intn(2)]) {
		tape.WriteByte("0111111"[r.Intn(7)])
	}
	m.tape = tape.String()
	return m
}

func (m *model) config() string {
	text := fmt.Sprintf("noise %d\nbudget %d\n", m.noise, m.budget)
	for i, values := range m.values {
		text += fmt.Sprintf("var %s %d", variableName(i), values)
		for _, parent := range m.parents[i] {
			text += " " + variableName(parent)
		}
		text += "\n"
	}
	for i, budget := range m.clients {
		text += fmt.Sprintf("client %s %d\n", clientName(i), budget)
	}
	return text
}

// rowTexts are the rows, with texts among them that are none.
func (m *model) rowTexts(r *rand.Rand) []string {
	var texts []string
	for _, row := range m.rows {
		text := strings.Trim(strings.ReplaceAll(fmt.Sprint(row), " ", ","), "[]")
		texts = append(texts, text)
		if r.Intn(3) == 0 {
			texts = append(texts, []string{text + ",", "", text + " ", "3" + text[1:], "-" + text}[r.Intn(5)])
		}
	}
	return texts
}

// randomNamed names some variables, with their values; the first is asked for.
func (m *model) randomNamed(r *rand.Rand) ([]int, map[int]int) {
	order := r.Perm(len(m.values))
	order = order[:1+r.Intn(len(order))]
	named := map[int]int{}
	for _, i := range order {
		named[i] = r.Intn(m.values[i])
	}
	return order, named
}

func requestText(client int, order []int, named map[int]int) string {
	text := clientName(client)
	for place, i := range order {
		text += string(" |,"[min(place, 2)]) + fmt.Sprintf("%s=%d", variableName(i), named[i])
	}
	return text
}

// need marks a variable's table as needed, and those of its parents.
func (m *model) need(i int, needed map[int]bool) {
	needed[i] = true
	for _, parent := range m.parents[i] {
		m.need(parent, needed)
	}
}

func (m *model) ask(client int, order []int, named map[int]int) string {
	if m.halted {
		return "ERR halted"
	}
	needed := map[int]bool{}
	for _, i := range order {
		m.need(i, needed)
	}
	cost, common := 0, 0
	for i := range needed {
		if !m.used[[2]int{client, i}] {
			cost++
		}
		if m.tables[i] == nil {
			common++
		}
	}
	if journalSum(m.journal, clientName(client))+cost > m.clients[client] || journalSum(m.journal, "")+common > m.budget {
		return "ERR budget"
	}
	if cost > 0 || common > 0 {
		m.journal += fmt.Sprintf("%s:%d,%d;", clientName(client), cost, common)
		m.failing--
		if m.failing == -1 {
			return "ERR store"
		}
		m.synced = len(m.journal)
	}
	for i := range m.values {
		m.used[[2]int{client, i}] = m.used[[2]int{client, i}] || needed[i]
		if needed[i] && m.tables[i] == nil && !m.drawTable(i) {
			m.halted = true
			return "ERR entropy"
		}
	}
	evidence := maps.Clone(named)
	delete(evidence, order[0])
	answer := new(big.Rat).Quo(m.chance(0, needed, named, nil), m.chance(0, needed, evidence, nil))
	return "OK " + answer.RatString()
}

// crash works on the journal's text, byte by byte.
func (m *model) crash(keep int) api.Errno {
	if keep < 0 {
		return api.ErrArg
	}
	lasting := m.journal[:m.synced]
	for i := m.synced; i < len(m.journal) && keep > 0; i++ {
		lasting += m.journal[i : i+1]
		keep--
	}
	for lasting != "" && !strings.HasSuffix(lasting, ";") {
		lasting = lasting[:len(lasting)-1]
	}
	m.journal, m.synced, m.failing, m.halted = lasting, len(lasting), -1, false
	m.tables, m.used = map[int]map[string]int{}, map[[2]int]bool{}
	return api.OK
}

func (m *model) fail(n int) api.Errno {
	if n < 0 {
		return api.ErrArg
	}
	m.failing = n
	return api.OK
}

// journalSum reads a journal's text and adds up what that client has spent, or
// what was spent in common if the name is empty.
func journalSum(journal string, client string) int {
	sum := 0
	for text := range strings.SplitAfterSeq(journal, ";") {
		if text == "" {
			continue
		}
		name, costs, _ := strings.Cut(text, ":")
		var cost, common int
		if n, err := fmt.Sscanf(costs, "%d,%d;", &cost, &common); n != 2 || err != nil {
			panic("no record: " + text)
		}
		if client == "" {
			sum += common
		} else if name == client {
			sum += cost
		}
	}
	return sum
}

// drawTable draws the cells of a table in the order of their keys.
func (m *model) drawTable(i int) bool {
	keys := []string{""}
	family := append(append([]int{}, m.parents[i]...), i)
	for _, member := range family {
		var longer []string
		for _, key := range keys {
			for value := range m.values[member] {
				longer = append(longer, key+fmt.Sprint(value))
			}
		}
		keys = longer
	}
	cells := map[string]int{}
	for _, row := range m.rows {
		cells[m.key(i, row)]++
	}
	for _, key := range keys {
		first, ok := m.geometric()
		second, okToo := m.geometric()
		if !ok || !okToo {
			return false
		}
		cells[key] = 1 + max(0, cells[key]+first-second)
	}
	m.tables[i] = cells
	return true
}

func (m *model) key(i int, values []int) string {
	key := ""
	for _, parent := range m.parents[i] {
		key += fmt.Sprint(values[parent])
	}
	return key + fmt.Sprint(values[i])
}

func (m *model) geometric() (int, bool) {
	for passed := 0; len(m.tape) >= m.noise; passed++ {
		trial := m.tape[:m.noise]
		m.tape = m.tape[m.noise:]
		if !strings.Contains(trial, "0") {
			return passed, true
		}
	}
	return 0, false
}

// chance sums over the values of variable i and all behind it, those ahead of
// it being chosen.
func (m *model) chance(i int, needed map[int]bool, named map[int]int, chosen []int) *big.Rat {
	if i == len(m.values) {
		return big.NewRat(1, 1)
	}
	if !needed[i] {
		return m.chance(i+1, needed, named, append(chosen, 0))
	}
	sum, total := new(big.Rat), new(big.Rat)
	for value := range m.values[i] {
		longer := append(append([]int{}, chosen...), value)
		cell := big.NewRat(int64(m.tables[i][m.key(i, longer)]), 1)
		total.Add(total, cell)
		if asked, ok := named[i]; !ok || asked == value {
			sum.Add(sum, cell.Mul(cell, m.chance(i+1, needed, named, longer)))
		}
	}
	return sum.Quo(sum, total)
}

// checkJournalSays holds Spent of these clients and Left against the journal's
// text.
func checkJournalSays(t *testing.T, s *murmur.Server, budget int, clients ...string) {
	t.Helper()
	journal := s.Journal()
	for _, client := range clients {
		if got, want := s.Spent(client), journalSum(journal, client); got != want {
			t.Errorf("Spent(%q) = %d, want %d, by %q", client, got, want, journal)
		}
	}
	if got, want := s.Left(), budget-journalSum(journal, ""); got != want {
		t.Errorf("Left() = %d, want %d, by %q", got, want, journal)
	}
}

// randomNumber is mostly one below the most.
func randomNumber(r *rand.Rand, most int) int {
	switch r.Intn(12) {
	case 0:
		return math.MaxInt
	case 1:
		return math.MinInt
	case 2:
		return -1
	}
	return r.Intn(most)
}

// randomCall makes a call of the server and of the model; it tells the call,
// and what they answered.
func (m *model) randomCall(r *rand.Rand, s *murmur.Server) (call string, got string, want string) {
	switch r.Intn(8) {
	case 0:
		keep := randomNumber(r, 30)
		return fmt.Sprintf("Crash(%d)", keep), fmt.Sprint(s.Crash(keep)), fmt.Sprint(m.crash(keep))
	case 1, 2:
		n := randomNumber(r, 3)
		return fmt.Sprintf("Fail(%d)", n), fmt.Sprint(s.Fail(n)), fmt.Sprint(m.fail(n))
	}
	client := r.Intn(len(m.clients))
	order, named := m.randomNamed(r)
	request := requestText(client, order, named)
	return fmt.Sprintf("Ask(%q)", request), s.Ask(request), m.ask(client, order, named)
}

// P5 to P10: servers and calls at random, held against the model behind every
// call; nobody spends more than the budget.
func TestModel(t *testing.T) {
	r := rand.New(rand.NewSource(19))
	seen := map[string]int{}
	for range 1000 {
		m := randomModel(r)
		config, rows, tape := m.config(), m.rowTexts(r), m.tape
		s := newServer(t, config, rows, tape)
		var names []string
		for i := range m.clients {
			names = append(names, clientName(i))
		}
		var calls []string
		for range 40 {
			call, got, want := m.randomCall(r, s)
			calls = append(calls, call)
			if got != want || s.Journal() != m.journal {
				t.Fatalf("%q, %q, %q: %q answer %q with the journal %q, want %q, %q", config, rows, tape, calls, got, s.Journal(), want, m.journal)
			}
			checkJournalSays(t, s, m.budget, names...)
			for i, budget := range m.clients {
				if s.Spent(names[i]) > budget || s.Left() < 0 {
					t.Errorf("%q: %q: %s spent %d of %d, %d left", config, calls, names[i], s.Spent(names[i]), budget, s.Left())
				}
			}
			kind, _, _ := strings.Cut(strings.TrimPrefix(got, "ERR "), " ")
			seen[kind]++
		}
	}
	for _, kind := range []string{"OK", "budget", "store", "entropy", "halted", "0", "3"} {
		if seen[kind] < 200 {
			t.Errorf("%d answers were %s: too few to tell", seen[kind], kind)
		}
	}
}
