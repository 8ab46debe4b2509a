package parse

import (
	"slices"

	"syntagm/api"
	"syntagm/inst"
	"syntagm/parts"
)

// Leaves are the trees of terminals in one.
func Leaves(n api.Node) []api.Node { return leaves(nil, n) }

// leaves puts them behind others.
func leaves(l []api.Node, n api.Node) []api.Node {
	if n.Prod == -1 {
		return append(l, parts.CopyNode(n))
	}
	for _, kid := range n.Kids {
		l = leaves(l, kid)
	}
	return l
}

// Valid tells whether a tree is one of a grammar.
func Valid(g api.Grammar, n api.Node) bool { return inst.Valid(g) && valid(g, n) }

// valid is Valid of a grammar that is valid itself.
func valid(g api.Grammar, n api.Node) bool {
	if _, ok := symbol(g, n); !ok {
		return false
	}
	if n.Prod == -1 {
		return n.From < n.To && len(n.Kids) == 0
	}
	right := g.Prods[n.Prod].Right
	if len(n.Kids) != len(right) {
		return false
	}
	for i, kid := range n.Kids {
		s, _ := symbol(g, kid)
		if !valid(g, kid) || s != right[i] || i > 0 && kid.From < n.Kids[i-1].To {
			return false
		}
	}
	last := len(n.Kids) - 1
	if last < 0 {
		return n.From == n.To
	}
	return n.From == n.Kids[0].From && n.To == n.Kids[last].To
}

// symbol is of which symbol a tree is; false of none.
func symbol(g api.Grammar, n api.Node) (api.Sym, bool) {
	switch {
	case n.Prod == -1 && n.Term >= 0 && n.Term < len(g.Terms):
		return api.Sym(n.Term), true
	case n.Prod >= 0 && n.Prod < len(g.Prods) && n.Term == 0:
		return api.Sym(-1 - g.Prods[n.Prod].Sort), true
	}
	return 0, false
}

// Same tells whether two are alike.
func Same(a, b api.Node) bool {
	return a.Prod == b.Prod && a.Term == b.Term && a.From == b.From && a.To == b.To && slices.EqualFunc(a.Kids, b.Kids, Same)
}
