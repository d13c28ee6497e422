package murmur

import (
	"strings"

	"murmur/api"
	"murmur/words"
)

// unnamed stands in a choice for the value of a variable that is not named.
const unnamed = -1

type request struct {
	client   string
	question int    // the variable that is asked for
	named    choice // the values of the question and of the evidence
}

// evidence is what is named beside the question.
func (r request) evidence() choice {
	evidence := r.named
	evidence[r.question] = unnamed
	return evidence
}

// tables are the tables of the variables that the request names.
func (r request) tables() tableSet {
	var tables tableSet
	for i, value := range r.named {
		if value != unnamed {
			tables = tables.with(i)
		}
	}
	return tables
}

// parseRequest reads a request, of a client that there may not be; it answers
// false if the text is none.
func (c *config) parseRequest(text string) (request, bool) {
	if len(text) > api.MaxLine {
		return request{}, false
	}
	name, rest, ok := strings.Cut(text, " ")
	if !ok || !words.IsName(name) {
		return request{}, false
	}
	question, evidence, given := strings.Cut(rest, "|")
	parts := []string{question}
	if given {
		parts = append(parts, strings.Split(evidence, ",")...)
	}
	r := request{client: name}
	for i := range r.named {
		r.named[i] = unnamed
	}
	for i, part := range parts {
		place, value, ok := c.parseNamed(part)
		if !ok || r.named[place] != unnamed {
			return request{}, false
		}
		if i == 0 {
			r.question = place
		}
		r.named[place] = value
	}
	return r, true
}

// parseNamed reads a variable's name and its value, with `=` between.
func (c *config) parseNamed(text string) (int, int, bool) {
	name, number, ok := strings.Cut(text, "=")
	place := c.variableNamed(name)
	if !ok || place < 0 {
		return 0, 0, false
	}
	value, ok := words.Number(number, 0, c.variables[place].values-1)
	return place, value, ok
}
