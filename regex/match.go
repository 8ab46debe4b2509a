package regex

import "syntagm/api"

// place is somewhere within a regex: ahead of some bytes, behind which another place is, or ahead of other places at once.
type place struct {
	bytes api.Regex
	next  int
	also  []int
}

// matcher is a regex as places, so that a text is matched byte by byte, however the regex is nested.
type matcher struct {
	places []place
	seen   []int // of each place the byte at which it was come to last
	now    int
}

// theEnd is the place behind the whole regex.
const theEnd = 0

// Match tells whether it matches a text.
func Match(r api.Regex, s string) bool {
	m := &matcher{places: []place{{}}}
	first := m.lay(r, theEnd)
	m.seen = make([]int, len(m.places))
	at := m.fold(nil, first)
	for i := range len(s) {
		var next []int
		m.now = i + 1
		for _, p := range at {
			if Has(m.places[p].bytes, s[i]) {
				next = m.fold(next, m.places[p].next)
			}
		}
		at = next
	}
	return m.seen[theEnd] == m.now+1
}

// lay lays the places of a regex, ahead of the place that is behind it, and tells the first one.
func (m *matcher) lay(r api.Regex, behind int) int {
	switch r.Kind {
	case api.RegexEmpty:
		return behind
	case api.RegexBytes:
		return m.add(place{bytes: api.Regex{Kind: r.Kind, Bytes: r.Bytes}, next: behind})
	case api.RegexCat:
		for i := len(r.Kids) - 1; i >= 0; i-- {
			behind = m.lay(r.Kids[i], behind)
		}
		return behind
	case api.RegexAlt:
		at := m.add(place{})
		for _, kid := range r.Kids {
			first := m.lay(kid, behind)
			m.places[at].also = append(m.places[at].also, first)
		}
		return at
	case api.RegexStar:
		at := m.add(place{})
		first := m.lay(kidOfStar(r), at)
		m.places[at].also = []int{behind, first}
		return at
	}
	return m.add(place{})
}

func (m *matcher) add(p place) int {
	m.places = append(m.places, p)
	return len(m.places) - 1
}

// fold adds places, and all that are come to from them without a byte, to those where the text is now, each once.
func (m *matcher) fold(at []int, more ...int) []int {
	for len(more) > 0 {
		p := more[len(more)-1]
		more = more[:len(more)-1]
		// One more than the byte, since a place that was never come to has a 0.
		if m.seen[p] == m.now+1 {
			continue
		}
		m.seen[p] = m.now + 1
		at = append(at, p)
		more = append(more, m.places[p].also...)
	}
	return at
}
