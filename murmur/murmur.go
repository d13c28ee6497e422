// Package murmur: questions about records, answered with noise, as long as the budget lasts: see DOC.md.
package murmur

import "murmur/api"

// Server is a server.
type Server struct{}

// New makes a server (P5).
func New(config string, rows []string, tape string) (*Server, api.Errno) { return nil, api.OK }

// Ask answers a request (P6, P7).
func (s *Server) Ask(request string) string { return "" }

// Spent tells what a client has spent (P8).
func (s *Server) Spent(client string) int { return 0 }

// Left tells what is left of the common budget (P8).
func (s *Server) Left() int { return 0 }

// Fail says which sync will fail (P8).
func (s *Server) Fail(n int) api.Errno { return api.OK }

// Journal tells the journal's text (P8).
func (s *Server) Journal() string { return "" }

// Crash lets the server go down and come up again (P9).
func (s *Server) Crash(keep int) api.Errno { return api.OK }
