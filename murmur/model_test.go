package murmur_test

import (
	"fmt"
	"maps"
	"math/big"
	"math/rand"
	"strings"
	"testing"

	"murmur/api"
)

// A model reckons what a server should answer, from the values that the texts
// were made of, in another way than the program does.
type model struct {
	noise, budget int
	values        []int   // of each variable
	parents       [][]int // of each variable
	clients       []int   // their budgets
	rows          [][]int
	tape          string
	tables        map[int]map[string]int // of the drawn tables, by the values
	used          map[[2]int]bool        // by client and variable
	spent         map[int]int
	left          int
	journal       string
	halted        bool
}

func variableName(i int) string { return string(rune('p' + i)) }

func clientName(i int) string { return strings.Repeat(string(rune('a'+i)), i+1) }

// randomModel has up to MaxVars variables, with rows and a tape to fit.
func randomModel(r *rand.Rand) *model {
	m := &model{noise: 1 + r.Intn(api.MaxNoise), budget: r.Intn(8), tables: map[int]map[string]int{}, used: map[[2]int]bool{}, spent: map[int]int{}}
	m.left = m.budget
	for i := range 1 + r.Intn(api.MaxVars) {
		m.values = append(m.values, 2+r.Intn(2))
		m.parents = append(m.parents, r.Perm(i)[:min(i, r.Intn(api.MaxParents+1))])
	}
	for range 1 + r.Intn(api.MaxClients) {
		m.clients = append(m.clients, r.Intn(9))
	}
	for range r.Intn(12) {
		var row []int
		for _, values := range m.values {
			row = append(row, r.Intn(values))
		}
		m.rows = append(m.rows, row)
	}
	var tape strings.Builder
	for range r.Intn([]int{100, 4000}[r.Intn(2)]) {
		tape.WriteByte("0111111"[r.Intn(7)])
	}
	m.tape = tape.String()
	return m
}

func (m *model) config() string {
	text := fmt.Sprintf("noise %d\nbudget %d\n", m.noise, m.budget)
	for i, values := range m.values {
		text += fmt.Sprintf("var %s %d", variableName(i), values)
		for _, parent := range m.parents[i] {
			text += " " + variableName(parent)
		}
		text += "\n"
	}
	for i, budget := range m.clients {
		text += fmt.Sprintf("client %s %d\n", clientName(i), budget)
	}
	return text
}

// rowTexts are the rows, with texts among them that are none.
func (m *model) rowTexts(r *rand.Rand) []string {
	var texts []string
	for _, row := range m.rows {
		text := strings.Trim(strings.ReplaceAll(fmt.Sprint(row), " ", ","), "[]")
		texts = append(texts, text)
		if r.Intn(3) == 0 {
			texts = append(texts, []string{text + ",", "", text + " ", "3" + text[1:], "-" + text}[r.Intn(5)])
		}
	}
	return texts
}

// randomNamed names some variables, with their values; the first is asked for.
func (m *model) randomNamed(r *rand.Rand) ([]int, map[int]int) {
	order := r.Perm(len(m.values))
	order = order[:1+r.Intn(len(order))]
	named := map[int]int{}
	for _, i := range order {
		named[i] = r.Intn(m.values[i])
	}
	return order, named
}

func requestText(client int, order []int, named map[int]int) string {
	text := clientName(client)
	for place, i := range order {
		text += string(" |,"[min(place, 2)]) + fmt.Sprintf("%s=%d", variableName(i), named[i])
	}
	return text
}

// need marks a variable's table as needed, and those of its parents.
func (m *model) need(i int, needed map[int]bool) {
	needed[i] = true
	for _, parent := range m.parents[i] {
		m.need(parent, needed)
	}
}

func (m *model) ask(client int, order []int, named map[int]int) string {
	if m.halted {
		return "ERR halted"
	}
	needed := map[int]bool{}
	for _, i := range order {
		m.need(i, needed)
	}
	cost, common := 0, 0
	for i := range needed {
		if !m.used[[2]int{client, i}] {
			cost++
		}
		if m.tables[i] == nil {
			common++
		}
	}
	if m.spent[client]+cost > m.clients[client] || common > m.left {
		return "ERR budget"
	}
	if cost > 0 || common > 0 {
		m.spent[client] += cost
		m.left -= common
		m.journal += fmt.Sprintf("%s:%d,%d;", clientName(client), cost, common)
	}
	for i := range m.values {
		m.used[[2]int{client, i}] = m.used[[2]int{client, i}] || needed[i]
		if needed[i] && m.tables[i] == nil && !m.drawTable(i) {
			m.halted = true
			return "ERR entropy"
		}
	}
	evidence := maps.Clone(named)
	delete(evidence, order[0])
	answer := new(big.Rat).Quo(m.chance(0, needed, named, nil), m.chance(0, needed, evidence, nil))
	return "OK " + answer.RatString()
}

// drawTable draws the cells of a table in the order of their keys.
func (m *model) drawTable(i int) bool {
	keys := []string{""}
	family := append(append([]int{}, m.parents[i]...), i)
	for _, member := range family {
		var longer []string
		for _, key := range keys {
			for value := range m.values[member] {
				longer = append(longer, key+fmt.Sprint(value))
			}
		}
		keys = longer
	}
	cells := map[string]int{}
	for _, row := range m.rows {
		cells[m.key(i, row)]++
	}
	for _, key := range keys {
		first, ok := m.geometric()
		second, okToo := m.geometric()
		if !ok || !okToo {
			return false
		}
		cells[key] = 1 + max(0, cells[key]+first-second)
	}
	m.tables[i] = cells
	return true
}

func (m *model) key(i int, values []int) string {
	key := ""
	for _, parent := range m.parents[i] {
		key += fmt.Sprint(values[parent])
	}
	return key + fmt.Sprint(values[i])
}

func (m *model) geometric() (int, bool) {
	for passed := 0; len(m.tape) >= m.noise; passed++ {
		trial := m.tape[:m.noise]
		m.tape = m.tape[m.noise:]
		if !strings.Contains(trial, "0") {
			return passed, true
		}
	}
	return 0, false
}

// chance sums over the values of variable i and all behind it, those ahead of
// it being chosen.
func (m *model) chance(i int, needed map[int]bool, named map[int]int, chosen []int) *big.Rat {
	if i == len(m.values) {
		return big.NewRat(1, 1)
	}
	if !needed[i] {
		return m.chance(i+1, needed, named, append(chosen, 0))
	}
	sum, total := new(big.Rat), new(big.Rat)
	for value := range m.values[i] {
		longer := append(append([]int{}, chosen...), value)
		cell := big.NewRat(int64(m.tables[i][m.key(i, longer)]), 1)
		total.Add(total, cell)
		if asked, ok := named[i]; !ok || asked == value {
			sum.Add(sum, cell.Mul(cell, m.chance(i+1, needed, named, longer)))
		}
	}
	return sum.Quo(sum, total)
}

// P5 to P8: servers at random, held against the model behind every request.
func TestModel(t *testing.T) {
	r := rand.New(rand.NewSource(19))
	seen := map[string]int{}
	for range 400 {
		m := randomModel(r)
		config, rows, tape := m.config(), m.rowTexts(r), m.tape
		s := newServer(t, config, rows, tape)
		for range 25 {
			client := r.Intn(len(m.clients))
			order, named := m.randomNamed(r)
			request := requestText(client, order, named)
			got, want := s.Ask(request), m.ask(client, order, named)
			if got != want {
				t.Fatalf("%q, %q, %q: Ask(%q) = %q, want %q", config, rows, tape, request, got, want)
			}
			spent := s.Spent(clientName(client))
			if s.Journal() != m.journal || s.Left() != m.left || spent != m.spent[client] {
				t.Fatalf("%q behind %q: %q, %d left, %d spent, want %q, %d, %d", config, request, s.Journal(), s.Left(), spent, m.journal, m.left, m.spent[client])
			}
			kind, _, _ := strings.Cut(strings.TrimPrefix(got, "ERR "), " ")
			seen[kind]++
		}
	}
	for _, kind := range []string{"OK", "budget", "entropy", "halted"} {
		if seen[kind] < 50 {
			t.Errorf("%d answers were %s: too few to tell", seen[kind], kind)
		}
	}
}
