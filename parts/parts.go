// Package parts tells whether values of api's types that hold lists are alike, and copies them into new memory.
package parts

import (
	"slices"

	"syntagm/api"
)

// SameName tells whether two symbols are alike.
func SameName(a, b api.Name) bool { return a.Of == b.Of && SameNames(a.Arg, b.Arg) }

// SameNames tells whether two rows of symbols are alike.
func SameNames(a, b []api.Name) bool { return slices.EqualFunc(a, b, SameName) }

// SameRule tells whether two rules are alike.
func SameRule(a, b api.Rule) bool {
	return a.Label == b.Label && a.Class == b.Class && SameName(a.Sort, b.Sort) && SameNames(a.Right, b.Right)
}

// CopyName is the same symbol.
func CopyName(n api.Name) api.Name { return api.Name{Of: n.Of, Arg: CopyNames(n.Arg)} }

// CopyNames are the same symbols.
func CopyNames(l []api.Name) []api.Name { return copied(l, CopyName) }

// CopyRule is the same rule.
func CopyRule(r api.Rule) api.Rule {
	r.Sort, r.Right = CopyName(r.Sort), CopyNames(r.Right)
	return r
}

// CopyRules are the same rules.
func CopyRules(l []api.Rule) []api.Rule { return copied(l, CopyRule) }

// CopyGrammar is the same grammar.
func CopyGrammar(g api.Grammar) api.Grammar {
	g.Terms, g.Over, g.Sorts = slices.Clone(g.Terms), slices.Clone(g.Over), slices.Clone(g.Sorts)
	g.Prods = copied(g.Prods, func(p api.Prod) api.Prod {
		p.Right = slices.Clone(p.Right)
		return p
	})
	return g
}

// CopyNode is the same tree.
func CopyNode(n api.Node) api.Node {
	n.Kids = CopyNodes(n.Kids)
	return n
}

// CopyNodes are the same trees.
func CopyNodes(l []api.Node) []api.Node { return copied(l, CopyNode) }

func copied[T any](l []T, one func(T) T) []T {
	if len(l) == 0 {
		return nil
	}
	out := make([]T, 0, len(l))
	for _, x := range l {
		out = append(out, one(x))
	}
	return out
}
