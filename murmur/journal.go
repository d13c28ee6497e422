package murmur

import (
	"strconv"
	"strings"
)

// A record is one charge.
type record struct {
	client string
	cost   int
	common int
}

func (r record) text() string {
	return r.client + ":" + strconv.Itoa(r.cost) + "," + strconv.Itoa(r.common) + ";"
}

type journal struct {
	records []record
	synced  int // how many of the records last
}

// write puts a record to the journal's end and syncs all that stands there; it
// answers whether the sync went well.
func (j *journal) write(r record) (ok bool) {
	// Deferred, so that on every way out the mark says what was synced.
	defer func() {
		if ok {
			j.synced = len(j.records)
		}
	}()
	j.records = append(j.records, r)
	return true // nothing makes a sync fail as long as Fail answers nothing
}

func (j *journal) text() string {
	var text strings.Builder
	for _, r := range j.records {
		text.WriteString(r.text())
	}
	return text.String()
}

// spentBy is what that client has spent.
func (j *journal) spentBy(client string) int {
	sum := 0
	for _, r := range j.records {
		if r.client == client {
			sum += r.cost
		}
	}
	return sum
}

// spentInCommon is what all clients together have spent of the common budget.
func (j *journal) spentInCommon() int {
	sum := 0
	for _, r := range j.records {
		sum += r.common
	}
	return sum
}
