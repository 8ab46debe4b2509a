package parts_test

import (
	"reflect"
	"testing"

	"syntagm/api"
	"syntagm/parts"
)

func rule() api.Rule {
	return api.Rule{Label: "l", Sort: api.Name{Of: "S", Arg: []api.Name{{Of: "x"}}}, Right: []api.Name{{Of: "a"}, {Of: "L", Arg: []api.Name{{Of: "x"}}}}, Class: 3}
}

func TestSame(t *testing.T) {
	if !parts.SameRule(rule(), rule()) || !parts.SameNames(nil, []api.Name{}) {
		t.Error("alike")
	}
	for i, spoil := range []func(*api.Rule){
		func(r *api.Rule) { r.Label = "k" },
		func(r *api.Rule) { r.Class = 0 },
		func(r *api.Rule) { r.Sort.Of = "T" },
		func(r *api.Rule) { r.Sort.Arg = nil },
		func(r *api.Rule) { r.Right[1].Arg[0].Of = "y" },
		func(r *api.Rule) { r.Right = r.Right[:1] },
	} {
		r := rule()
		if spoil(&r); parts.SameRule(r, rule()) {
			t.Error(i)
		}
	}
}

func TestCopiesShareNothing(t *testing.T) {
	l := []api.Rule{rule()}
	c := parts.CopyRules(l)
	if !parts.SameRule(c[0], rule()) {
		t.Error(c)
	}
	c[0].Label, c[0].Sort.Arg[0].Of, c[0].Right[0].Of, c[0].Right[1].Arg[0].Of = "", "", "", ""
	if !parts.SameRule(l[0], rule()) {
		t.Error("rules are shared")
	}
	grammar := func() api.Grammar {
		return api.Grammar{Terms: []api.Term{{Name: "a"}}, Over: [][2]int{{0, 0}}, Sorts: []string{"S"}, Prods: []api.Prod{{Label: "l", Right: []api.Sym{0}}}}
	}
	g := grammar()
	h := parts.CopyGrammar(g)
	if !reflect.DeepEqual(g, h) {
		t.Error(h)
	}
	h.Terms[0].Name, h.Over[0], h.Sorts[0], h.Prods[0].Label, h.Prods[0].Right[0] = "", [2]int{1, 1}, "", "", -1
	if !reflect.DeepEqual(g, grammar()) {
		t.Error("grammars are shared")
	}
	n := api.Node{Prod: 1, Kids: []api.Node{{Prod: -1, Term: 2, To: 1}}}
	m := parts.CopyNode(n)
	if !reflect.DeepEqual(n, m) {
		t.Error(m)
	}
	if m.Kids[0].Term = 0; n.Kids[0].Term != 2 {
		t.Error("trees are shared")
	}
}
