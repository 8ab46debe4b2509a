// Package derive tells by trial what is derived in a grammar, without a table: tests hold tables and parsers against it.
package derive

import "syntagm/api"

// spread is what symbols come to within a row of terminals: of each sort, from each place, how many derivations reach each place.
type spread struct {
	g    api.Grammar
	row  []int
	ways [][][]int
}

// Ways is in how many ways a row of terminals is derived from the start of a valid grammar: 0, 1, or 2 for more than one.
func Ways(g api.Grammar, row []int) int {
	s := reached(g, row)
	return s.ways[g.Start][0][len(row)]
}

// reached grows the number of ways of all sorts till nothing changes.
func reached(g api.Grammar, row []int) *spread {
	s := &spread{g: g, row: row}
	for range g.Sorts {
		var sort [][]int
		for range len(row) + 1 {
			sort = append(sort, make([]int, len(row)+1))
		}
		s.ways = append(s.ways, sort)
	}
	for s.round() {
	}
	return s
}

// round counts all ways anew by those that are known, and tells whether there are more.
func (s *spread) round() bool {
	more := false
	for sort := range s.g.Sorts {
		for from := range len(s.row) + 1 {
			sum := make([]int, len(s.row)+1)
			for _, p := range s.g.Prods {
				if p.Sort != sort {
					continue
				}
				for to, n := range s.through(p.Right, from) {
					sum[to] = min(2, sum[to]+n)
				}
			}
			for to, n := range sum {
				if n > s.ways[sort][from][to] {
					s.ways[sort][from][to] = n
					more = true
				}
			}
		}
	}
	return more
}

// through is in how many ways a row of symbols reaches each place, from a place on.
func (s *spread) through(symbols []api.Sym, from int) []int {
	at := make([]int, len(s.row)+1)
	at[from] = 1
	for _, x := range symbols {
		next := make([]int, len(s.row)+1)
		for place, n := range at {
			if n == 0 {
				continue
			}
			for to, more := range s.one(x, place) {
				next[to] = min(2, next[to]+n*more)
			}
		}
		at = next
	}
	return at
}

// one is in how many ways a symbol reaches each place, from a place on.
func (s *spread) one(x api.Sym, from int) []int {
	if x < 0 {
		return s.ways[-1-x][from]
	}
	at := make([]int, len(s.row)+1)
	if from < len(s.row) && s.row[from] == int(x) {
		at[from+1] = 1
	}
	return at
}

// Begins tells whether something that is derived begins with a row of terminals, in a valid grammar from each of whose sorts a text is derived.
func Begins(g api.Grammar, row []int) bool {
	s := reached(g, row)
	begins := make([][]bool, len(g.Sorts))
	for sort := range begins {
		begins[sort] = make([]bool, len(row)+1)
	}
	for more := true; more; {
		more = false
		for _, p := range g.Prods {
			for from := range len(row) + 1 {
				if !begins[p.Sort][from] && s.goesOn(begins, p.Right, from) {
					begins[p.Sort][from] = true
					more = true
				}
			}
		}
	}
	return begins[g.Start][0]
}

// goesOn tells whether what a row of symbols derives begins with all that stands from a place on.
func (s *spread) goesOn(begins [][]bool, symbols []api.Sym, from int) bool {
	for i, x := range symbols {
		at := s.through(symbols[:i], from)
		for place, n := range at {
			if n > 0 && x < 0 && begins[-1-x][place] {
				return true
			}
		}
		if at[len(s.row)] > 0 {
			return true
		}
	}
	return s.through(symbols, from)[len(s.row)] > 0
}
