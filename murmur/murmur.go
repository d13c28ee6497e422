// Package murmur: questions about records, answered with noise, as long as the budget lasts: see DOC.md.
package murmur

import (
	"slices"
	"strings"

	"murmur/api"
)

// Server is a server.
type Server struct {
	config  config
	counts  [][]int    // of each table, without noise
	cells   [][]int    // of each table that is drawn, nil for the others
	used    []tableSet // by each client
	tape    string     // what is left of it
	journal journal
	halted  bool
}

// New makes a server (P5).
func New(config string, rows []string, tape string) (*Server, api.Errno) {
	c, ok := parseConfig(config)
	if !ok || !isTape(tape) {
		return nil, api.ErrText
	}
	if len(rows) > api.MaxRows {
		return nil, api.ErrArg
	}
	// The tape is copied, as nothing that is handed in is kept.
	return &Server{
		config: c,
		counts: c.countTables(c.parseRows(rows)),
		cells:  make([][]int, len(c.variables)),
		used:   make([]tableSet, len(c.clients)),
		tape:   strings.Clone(tape),
	}, api.OK
}

// Ask answers a request (P6, P7).
func (s *Server) Ask(request string) string {
	if s.halted {
		return "ERR halted"
	}
	asked, ok := s.config.parseRequest(request)
	if !ok {
		return "ERR syntax"
	}
	who := s.config.clientNamed(asked.client)
	if who < 0 {
		return "ERR client"
	}
	needed := s.config.withParents(asked.tables())
	missing := needed.without(s.drawn())
	cost, common := needed.without(s.used[who]).size(), missing.size()
	if !s.affords(who, cost, common) {
		return "ERR budget"
	}
	if !s.charge(who, cost, common) {
		return "ERR store"
	}
	if !s.draw(missing) {
		s.halted = true
		return "ERR entropy"
	}
	s.used[who] |= needed
	return "OK " + s.answer(asked, needed)
}

// drawn are the tables that are drawn.
func (s *Server) drawn() tableSet {
	var tables tableSet
	for i, cells := range s.cells {
		if cells != nil {
			tables = tables.with(i)
		}
	}
	return tables
}

// affords tells whether the client's and the common budget have that left.
func (s *Server) affords(who int, cost int, common int) bool {
	one := s.config.clients[who]
	return cost <= one.budget-s.journal.spentBy(one.name) && common <= s.Left()
}

// charge writes the costs into the journal, if there are any; it answers
// whether they last.
func (s *Server) charge(who int, cost int, common int) bool {
	if cost == 0 && common == 0 {
		return true
	}
	return s.journal.write(record{s.config.clients[who].name, cost, common})
}

// draw draws these tables, or none of them if the tape ends ahead of the last
// cell; the bits of the draws that were made are gone all the same.
func (s *Server) draw(tables tableSet) bool {
	cells := slices.Clone(s.cells)
	for i, counts := range s.counts {
		if !tables.has(i) {
			continue
		}
		drawn, ok := s.drawCells(counts)
		if !ok {
			return false
		}
		cells[i] = drawn
	}
	s.cells = cells
	return true
}

// drawCells lays noise on the counts of a table.
func (s *Server) drawCells(counts []int) ([]int, bool) {
	cells := make([]int, len(counts))
	for i, count := range counts {
		noise, taken, ok := drawNoise(s.config.noise, s.tape)
		if !ok {
			return nil, false
		}
		s.tape = s.tape[taken:]
		// One more, so that no cell is 0 and every evidence has a chance.
		cells[i] = max(count+noise, 0) + 1
	}
	return cells, true
}

// Spent tells what a client has spent (P8).
func (s *Server) Spent(client string) int { return s.journal.spentBy(client) }

// Left tells what is left of the common budget (P8).
func (s *Server) Left() int { return s.config.budget - s.journal.spentInCommon() }

// Fail says which sync will fail (P8).
func (s *Server) Fail(n int) api.Errno {
	if n < 0 {
		return api.ErrArg
	}
	s.journal.failAt(n)
	return api.OK
}

// Journal tells the journal's text (P8).
func (s *Server) Journal() string { return s.journal.text() }

// Crash lets the server go down and come up again (P9).
func (s *Server) Crash(keep int) api.Errno {
	if keep < 0 {
		return api.ErrArg
	}
	s.journal.crash(keep)
	clear(s.cells)
	clear(s.used)
	s.halted = false
	return api.OK
}
