package spans_test

import (
	"math"
	"slices"
	"strings"
	"testing"

	"syntagm/api"
	"syntagm/parse"
	"syntagm/spans"
)

// grammar is S = open S close of class 3, S = name, S = word of class 5; open has class 7.
func grammar() api.Grammar {
	return api.Grammar{
		Terms: []api.Term{{Name: "close", Regex: `\)`}, {Name: "name", Regex: "[a-z]+"}, {Name: "open", Regex: `\(`, Class: 7}, {Name: "space", Regex: " ", Layout: true}, {Name: "word", Regex: "[0-9]+"}},
		Sorts: []string{"S"},
		Prods: []api.Prod{{Label: "a", Right: []api.Sym{2, -1, 0}, Class: 3}, {Label: "b", Right: []api.Sym{1}}, {Label: "c", Right: []api.Sym{4}, Class: 5}},
	}
}

func of(t *testing.T, text string) []api.Span {
	t.Helper()
	p, err := parse.New(grammar())
	if err != api.OK {
		t.Fatal(err)
	}
	return spans.Of(p.Grammar(), p.Parse(text), len(text))
}

func TestExample(t *testing.T) {
	if l := of(t, "(x)"); !slices.Equal(l, []api.Span{{From: 0, To: 1, Class: 7}, {From: 1, To: 2, Class: 3}, {From: 2, To: 3, Class: 3}}) {
		t.Error(l)
	}
}

func TestClasses(t *testing.T) {
	for text, want := range map[string][]api.Span{
		"x":      {{From: 0, To: 1}},
		"7":      {{From: 0, To: 1, Class: 5}},
		"( 7 )":  {{From: 0, To: 1, Class: 7}, {From: 2, To: 3, Class: 5}, {From: 4, To: 5, Class: 3}},
		"":       {{From: 0, To: 0, Class: -1}},
		"( 7 !x": {{From: 0, To: 1, Class: 7}, {From: 2, To: 3}, {From: 4, To: 6, Class: -1}},
		"x y":    {{From: 0, To: 1}, {From: 2, To: 3, Class: -1}},
	} {
		if got := of(t, text); !slices.Equal(got, want) {
			t.Errorf("%q: %v", text, got)
		}
	}
}

func TestSpansAreTheTerminals(t *testing.T) {
	p, _ := parse.New(grammar())
	for _, text := range []string{"", "x", "((x))", "( (12) )", "((", "(x))", "(x !", " ", "(a b)", strings.Repeat("(", 3000) + "x" + strings.Repeat(")", 3000)} {
		r := p.Parse(text)
		l := spans.Of(p.Grammar(), r, len(text))
		if !spans.Cover(l, 0, len(text)) {
			t.Fatal(text, l)
		}
		var leaves []api.Node
		for _, tree := range r.Trees {
			leaves = append(leaves, parse.Leaves(tree)...)
		}
		for i, leaf := range leaves {
			if l[i].From != leaf.From || l[i].To != leaf.To || l[i].Class < 0 {
				t.Fatal(text, l)
			}
		}
		rest := l[len(leaves):]
		if r.OK && len(rest) != 0 || !r.OK && !slices.Equal(rest, []api.Span{{From: r.At, To: len(text), Class: -1}}) {
			t.Fatal(text, l)
		}
	}
}

func TestClass(t *testing.T) {
	g := grammar()
	g.Terms[1].Class, g.Prods[1].Class = -4, -4
	g.Terms[3].Class, g.Prods[2].Class = 1, 1
	if h := grammar(); spans.Class(h, api.Node{Prod: -1}, 2) != 2 {
		t.Error("a class of 0 is none")
	} else if h.Terms[0].Class = 6; spans.Class(h, api.Node{Prod: -1}, 2) != 6 {
		t.Error("the first terminal has one")
	}
	for _, x := range []struct {
		n    api.Node
		want int
	}{
		{api.Node{Prod: -1, Term: 2}, 7}, {api.Node{Prod: -1, Term: 0}, 9}, {api.Node{Prod: -1, Term: 1}, 9}, {api.Node{Prod: -1, Term: 3}, 1}, {api.Node{Prod: 2}, 1}, {api.Node{Prod: -1, Term: 5}, 9}, {api.Node{Prod: -1, Term: -1}, 9},
		{api.Node{Prod: 0, Term: 2}, 3}, {api.Node{Prod: 1}, 9}, {api.Node{Prod: 3}, 9}, {api.Node{Prod: -2, Term: 2}, 9}, {api.Node{Prod: math.MaxInt}, 9}, {api.Node{Prod: math.MinInt}, 9},
	} {
		if got := spans.Class(g, x.n, 9); got != x.want {
			t.Error(x, got)
		}
	}
	if spans.Class(api.Grammar{}, api.Node{Prod: -1}, -3) != -3 {
		t.Error("of no terminal above")
	}
}

func TestAnyResult(t *testing.T) {
	whole := api.Node{Prod: -1, Term: 77, From: 5, To: 2, Kids: []api.Node{{Prod: -1}}}
	r := parse.Result{OK: true, Trees: []api.Node{{Prod: -8, Kids: []api.Node{whole, {Prod: 0, Kids: []api.Node{{Prod: -1, Term: 1, From: 1, To: 3}}}}}, {Prod: -1, Term: 2}}, At: 3}
	want := []api.Span{{From: 5, To: 2}, {From: 1, To: 3, Class: 3}, {Class: 7}}
	if got := spans.Of(grammar(), r, 9); !slices.Equal(got, want) {
		t.Error(got)
	}
	r.OK = false
	if got := spans.Of(grammar(), r, -9); !slices.Equal(got, append(want, api.Span{From: 3, To: -9, Class: -1})) {
		t.Error(got)
	}
	if got := spans.Of(api.Grammar{}, parse.Result{}, 0); !slices.Equal(got, []api.Span{{Class: -1}}) {
		t.Error(got)
	}
}

func TestCover(t *testing.T) {
	span := func(from, to int) api.Span { return api.Span{From: from, To: to} }
	for i, x := range []struct {
		l        []api.Span
		from, to int
		want     bool
	}{
		{nil, 0, 0, true}, {nil, 0, 9, true}, {nil, 1, 0, false}, {nil, -5, -4, true},
		{[]api.Span{span(0, 3), span(3, 3), span(4, 9)}, 0, 9, true},
		{[]api.Span{span(0, 3)}, 1, 9, false},
		{[]api.Span{span(0, 3)}, 0, 2, false},
		{[]api.Span{span(3, 0)}, 0, 9, false},
		{[]api.Span{span(0, 3), span(2, 5)}, 0, 9, false},
		{[]api.Span{span(5, 6), span(2, 3)}, 0, 9, false},
		{[]api.Span{span(9, 9)}, 0, 9, true},
		{[]api.Span{span(10, 10)}, 0, 9, false},
	} {
		if got := spans.Cover(x.l, x.from, x.to); got != x.want {
			t.Error(i, got)
		}
	}
}

func TestAt(t *testing.T) {
	l := []api.Span{{From: 1, To: 3}, {From: 3, To: 3}, {From: 2, To: 5}, {From: 9, To: 7}}
	for at, want := range map[int]int{0: -1, 1: 0, 2: 0, 3: 2, 4: 2, 5: -1, 8: -1, -1: -1, math.MaxInt: -1} {
		if got := spans.At(l, at); got != want {
			t.Error(at, got)
		}
	}
	if spans.At(nil, 0) != -1 {
		t.Error("of none")
	}
}
