package murmur

import (
	"math/bits"
	"strings"
	"sync"

	"murmur/api"
	"murmur/words"
)

// A choice has a value for each variable, by its place in the config.
type choice [api.MaxVars]int

// A tableSet is a set of tables: bit i stands for the table of variable i.
type tableSet uint

func (t tableSet) has(i int) bool { return t>>i&1 == 1 }

func (t tableSet) with(i int) tableSet { return t | 1<<i }

func (t tableSet) without(other tableSet) tableSet { return t &^ other }

func (t tableSet) size() int { return bits.OnesCount(uint(t)) }

// parseRow reads a row; it answers false if the text is none.
func (c *config) parseRow(text string) (choice, bool) {
	// No more parts than tell that there are too many, however long the text.
	parts := strings.SplitN(text, ",", len(c.variables)+1)
	if len(parts) != len(c.variables) {
		return choice{}, false
	}
	var row choice
	for i, v := range c.variables {
		value, ok := words.Number(parts[i], 0, v.values-1)
		if !ok {
			return choice{}, false
		}
		row[i] = value
	}
	return row, true
}

// parseRows reads what is a row of the texts, and leaves out the rest.
func (c *config) parseRows(texts []string) []choice {
	var rows []choice
	for _, text := range texts {
		if row, ok := c.parseRow(text); ok {
			rows = append(rows, row)
		}
	}
	return rows
}

// countTables counts the rows into the cells of all tables, side by side.
func (c *config) countTables(rows []choice) [][]int {
	counts := make([][]int, len(c.variables))
	var group sync.WaitGroup
	for i := range c.variables {
		group.Go(func() { counts[i] = c.countTable(i, rows) })
	}
	group.Wait()
	return counts
}

func (c *config) countTable(i int, rows []choice) []int {
	size := c.variables[i].values
	for _, parent := range c.variables[i].parents {
		size *= c.variables[parent].values
	}
	counts := make([]int, size)
	for _, row := range rows {
		counts[c.cell(i, row)]++
	}
	return counts
}

// cell tells which cell of variable i's table stands for these values.
func (c *config) cell(i int, values choice) int {
	place := 0
	for _, parent := range c.variables[i].parents {
		place = place*c.variables[parent].values + values[parent]
	}
	return place*c.variables[i].values + values[i]
}

// withParents adds the tables of the parents, of their parents, and so on.
func (c *config) withParents(tables tableSet) tableSet {
	// From the last to the first, as parents stand ahead of their children.
	for i := len(c.variables) - 1; i >= 0; i-- {
		if !tables.has(i) {
			continue
		}
		for _, parent := range c.variables[i].parents {
			tables = tables.with(parent)
		}
	}
	return tables
}
