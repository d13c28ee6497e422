package murmur

import (
	"slices"
	"strings"

	"murmur/api"
	"murmur/words"
)

type variable struct {
	name    string
	values  int
	parents []int // their places among the variables
}

type client struct {
	name   string
	budget int
}

type config struct {
	noise     int
	budget    int
	variables []variable
	clients   []client
}

// parseConfig reads a config; it answers false if the text is none.
func parseConfig(text string) (config, bool) {
	if len(text) > api.MaxConfig {
		return config{}, false
	}
	body, ended := strings.CutSuffix(text, "\n")
	lines := strings.Split(body, "\n")
	if !ended || len(lines) < 2 {
		return config{}, false
	}
	noise, okNoise := parseSetting(lines[0], "noise", 1, api.MaxNoise)
	budget, okBudget := parseSetting(lines[1], "budget", 0, api.MaxBudget)
	if !okNoise || !okBudget {
		return config{}, false
	}
	c := config{noise: noise, budget: budget}
	for _, line := range lines[2:] {
		if !c.add(strings.Split(line, " ")) {
			return config{}, false
		}
	}
	return c, len(c.clients) > 0
}

// parseSetting reads a line of a word and a number.
func parseSetting(line string, word string, least int, most int) (int, bool) {
	text, ok := strings.CutPrefix(line, word+" ")
	if !ok {
		return 0, false
	}
	return words.Number(text, least, most)
}

// add takes the parts of a variable's or a client's line; it answers false if
// they make neither, or one that may not stand here.
func (c *config) add(parts []string) bool {
	switch parts[0] {
	case "var":
		return len(c.clients) == 0 && c.addVariable(parts[1:])
	case "client":
		return len(c.variables) > 0 && c.addClient(parts[1:])
	}
	return false
}

func (c *config) addVariable(parts []string) bool {
	if len(c.variables) == api.MaxVars || len(parts) < 2 || len(parts) > 2+api.MaxParents {
		return false
	}
	name := parts[0]
	values, ok := words.Number(parts[1], 2, api.MaxValues)
	if !ok || !words.IsName(name) || c.variableNamed(name) >= 0 {
		return false
	}
	var parents []int
	for _, part := range parts[2:] {
		parent := c.variableNamed(part)
		if parent < 0 || slices.Contains(parents, parent) {
			return false
		}
		parents = append(parents, parent)
	}
	// A name that is only cut out of the config would keep all of it.
	c.variables = append(c.variables, variable{strings.Clone(name), values, parents})
	return true
}

func (c *config) addClient(parts []string) bool {
	if len(c.clients) == api.MaxClients || len(parts) != 2 {
		return false
	}
	name := parts[0]
	budget, ok := words.Number(parts[1], 0, api.MaxBudget)
	if !ok || !words.IsName(name) || c.clientNamed(name) >= 0 {
		return false
	}
	c.clients = append(c.clients, client{strings.Clone(name), budget})
	return true
}

// variableNamed tells the place of the variable of that name, -1 if there is none.
func (c *config) variableNamed(name string) int {
	return slices.IndexFunc(c.variables, func(v variable) bool { return v.name == name })
}

// clientNamed tells the place of the client of that name, -1 if there is none.
func (c *config) clientNamed(name string) int {
	return slices.IndexFunc(c.clients, func(one client) bool { return one.name == name })
}
