package murmur

import (
	"strconv"
	"strings"
)

// A record is one charge.
type record struct {
	client string
	cost   int
	common int
}

func (r record) text() string {
	return r.client + ":" + strconv.Itoa(r.cost) + "," + strconv.Itoa(r.common) + ";"
}

type journal struct {
	records []record
	synced  int // how many of the records last
	// Which sync from now on fails, counted from 1, or 0 if none does; unsigned,
	// so that the greatest int has room for one more.
	failing uint
}

// write puts a record to the journal's end and syncs all that stands there; it
// answers whether the sync went well.
func (j *journal) write(r record) (ok bool) {
	// Deferred, so that on every way out the mark says what was synced.
	defer func() {
		if ok {
			j.synced = len(j.records)
		}
	}()
	j.records = append(j.records, r)
	ok = j.failing != 1
	j.failing -= min(j.failing, 1)
	return ok
}

// failAt lets the n-th sync from now on fail, counted from 0.
func (j *journal) failAt(n int) { j.failing = uint(n) + 1 }

// crash leaves, of the records that are not synced, those that stand whole
// within the first keep bytes; no sync is to fail then.
func (j *journal) crash(keep int) {
	lasting := j.synced
	for _, r := range j.records[j.synced:] {
		keep -= len(r.text())
		if keep < 0 {
			break
		}
		lasting++
	}
	*j = journal{records: j.records[:lasting], synced: lasting}
}

func (j *journal) text() string {
	var text strings.Builder
	for _, r := range j.records {
		text.WriteString(r.text())
	}
	return text.String()
}

// spentBy is what that client has spent.
func (j *journal) spentBy(client string) int {
	sum := 0
	for _, r := range j.records {
		if r.client == client {
			sum += r.cost
		}
	}
	return sum
}

// spentInCommon is what all clients together have spent of the common budget.
func (j *journal) spentInCommon() int {
	sum := 0
	for _, r := range j.records {
		sum += r.common
	}
	return sum
}
