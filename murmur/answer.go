package murmur

import "math/big"

// answer tells how likely the question is, given the evidence (P7).
func (s *Server) answer(asked request, needed tableSet) string {
	both := s.chance(asked.named, needed)
	given := s.chance(asked.evidence(), needed)
	return both.Quo(both, given).RatString()
}

// chance is P of the named values: a sum over all choices of values of the
// variables whose tables are needed.
func (s *Server) chance(named choice, needed tableSet) *big.Rat {
	sum := new(big.Rat)
choices:
	for number := range s.config.choices(needed) {
		rest := number
		var values choice
		product := big.NewRat(1, 1)
		for i, v := range s.config.variables {
			if !needed.has(i) {
				continue
			}
			values[i] = rest % v.values
			rest /= v.values
			if named[i] != unnamed && named[i] != values[i] {
				continue choices
			}
			product.Mul(product, s.share(i, values))
		}
		sum.Add(sum, product)
	}
	return sum
}

// choices tells how many choices of values there are of these variables.
func (c *config) choices(tables tableSet) int {
	count := 1
	for i, v := range c.variables {
		if tables.has(i) {
			count *= v.values
		}
	}
	return count
}

// share is variable i's cell for these values, divided by the sum of the cells
// with the same values of the parents.
func (s *Server) share(i int, values choice) *big.Rat {
	cell := s.config.cell(i, values)
	first := cell - values[i]
	sum := 0
	for _, other := range s.cells[i][first : first+s.config.variables[i].values] {
		sum += other
	}
	return big.NewRat(int64(s.cells[i][cell]), int64(sum))
}
