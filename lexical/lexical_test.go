package lexical_test

import (
	"math"
	"reflect"
	"slices"
	"strings"
	"testing"

	"syntagm/api"
	"syntagm/bits"
	"syntagm/lexical"
	"syntagm/mini"
	"syntagm/munch"
	"syntagm/sets"
	"syntagm/table"
)

// grammar has terminals of these regexes, named by letters, and one production for each right side, of one sort.
func grammar(regexes []string, rights ...[]api.Sym) api.Grammar {
	g := api.Grammar{Sorts: []string{"S"}}
	for i, r := range regexes {
		g.Terms = append(g.Terms, api.Term{Name: string(rune('a' + i)), Regex: r})
	}
	for i, r := range rights {
		g.Prods = append(g.Prods, api.Prod{Label: string(rune('a' + i)), Right: r})
	}
	return g
}

func built(t *testing.T, g api.Grammar) (lexical.Scanner, table.Table) {
	t.Helper()
	s, tab, err := lexical.Build(g)
	if err != api.OK {
		t.Fatal(err)
	}
	return s, tab
}

func TestExample(t *testing.T) {
	// S = if, S = name: both at one place.
	g := grammar([]string{"if", "[a-z]+"}, []api.Sym{0}, []api.Sym{1})
	s, tab, err := lexical.Build(g)
	if err != api.ErrLex || !reflect.DeepEqual(s, lexical.Scanner{}) || !reflect.DeepEqual(tab, table.Table{}) {
		t.Error(s, tab, err)
	}
	l := lexical.Clashes(g)
	d, _ := mini.Of([]string{"if", "[a-z]+"})
	if len(l) != 1 || l[0][0] != 0 || d.Tags[l[0][1]] != bits.Of(0, 1) {
		t.Error(l)
	}
	g.Over = [][2]int{{0, 1}}
	s, _ = built(t, g)
	if len(lexical.Clashes(g)) != 0 {
		t.Error(lexical.Clashes(g))
	}
	for text, want := range map[string]int{"if": 0, "iff": 1, "i": 1} {
		if tag, to := lexical.Scan(s, 0, text, 0); tag != want || to != len(text) {
			t.Error(text, tag, to)
		}
	}
}

func TestWhatMayComeWhere(t *testing.T) {
	// S = if name name: at no place both may come, so there is no clash.
	g := grammar([]string{"if", "[a-z]+", " "}, []api.Sym{0, 1, 1})
	g.Terms[2].Layout = true
	s, tab := built(t, g)
	if s.Skip != bits.Of(2) || !slices.Equal(s.Over, g.Over) {
		t.Error(s)
	}
	d, _ := mini.Of([]string{"if", "[a-z]+", " "})
	if !mini.Same(s.D, d) {
		t.Error(s.D)
	}
	same, _ := table.Build(g)
	if !reflect.DeepEqual(tab, same) {
		t.Error(tab)
	}
	for state, may := range s.May {
		if want := bits.With(bits.Without(tab.May[state], sets.End), 2); may != want || bits.Has(may, sets.End) {
			t.Error(state, may, want)
		}
	}
	if tag, to := lexical.Scan(s, 0, "iff", 0); tag != 0 || to != 2 {
		t.Error(tag, to)
	}
	if tag, to := lexical.Scan(s, tab.Deeds[0][0].N, "iff", 0); tag != 1 || to != 3 {
		t.Error(tag, to)
	}
	if tag, to := lexical.Scan(s, 0, "x", 0); tag != -1 || to != 0 {
		t.Error(tag, to)
	}
	if tag, to := lexical.Scan(s, 0, " if", 0); tag != 2 || to != 1 {
		t.Error(tag, to)
	}
}

func TestNoSuchState(t *testing.T) {
	s, tab := built(t, grammar([]string{"a"}, []api.Sym{0}))
	for _, state := range []int{-1, len(tab.May), math.MaxInt, math.MinInt} {
		for _, at := range []int{0, -7, 99} {
			if tag, to := lexical.Scan(s, state, "a", at); tag != -1 || to != at {
				t.Error(state, at, tag, to)
			}
		}
	}
	for _, at := range []int{-1, 1, 2} {
		if tag, to := lexical.Scan(s, 0, "a", at); tag != -1 || to != at {
			t.Error(at, tag, to)
		}
	}
	if tag, to := lexical.Scan(lexical.Scanner{}, 0, "a", 5); tag != -1 || to != 5 {
		t.Error(tag, to)
	}
	if tag, to := lexical.Scan(lexical.Scanner{May: []api.Set{1}}, 0, "a", 0); tag != -1 || to != 0 {
		t.Error(tag, to)
	}
}

func TestErrors(t *testing.T) {
	long := strings.Repeat("a", 201)
	for _, x := range []struct {
		g    api.Grammar
		want api.Errno
	}{
		{api.Grammar{}, api.ErrArg},
		{grammar([]string{"("}, []api.Sym{0, -1, -1}, []api.Sym{-1, -1}, []api.Sym{0}), api.ErrLR},
		{grammar([]string{"a", "(", long}, []api.Sym{0}), api.ErrForm},
		{grammar([]string{"a", long, "("}, []api.Sym{0}), api.ErrMany},
		{grammar([]string{"(a|b)*a" + strings.Repeat("(a|b)", 15)}, []api.Sym{0}), api.ErrMany},
		{grammar([]string{"a", "a"}, []api.Sym{0}, []api.Sym{1}), api.ErrLex},
	} {
		s, tab, err := lexical.Build(x.g)
		if err != x.want || !reflect.DeepEqual(s, lexical.Scanner{}) || !reflect.DeepEqual(tab, table.Table{}) {
			t.Error(x.want, err)
		}
		if l := lexical.Clashes(x.g); (len(l) > 0) != (x.want == api.ErrLex) {
			t.Error(x.want, l)
		}
	}
}

func TestClashes(t *testing.T) {
	two := [][]api.Sym{{0}, {1}}
	for i, x := range []struct {
		regexes []string
		over    [][2]int
		layout  []int
		rights  [][]api.Sym
		clash   bool
	}{
		{[]string{"a", "a"}, nil, nil, two, true},
		{[]string{"a", "a"}, [][2]int{{1, 0}}, nil, two, false},
		{[]string{"a", "a"}, [][2]int{{1, 0}, {0, 1}}, nil, two, true}, // none is left
		{[]string{"a", "a"}, [][2]int{{0, 0}}, nil, two, true},
		{[]string{"a", "b"}, nil, nil, two, false},
		{[]string{"a*", "b*"}, nil, nil, two, true}, // both are accepted at first
		{[]string{"a*", "b+"}, nil, nil, two, false},
		{[]string{"a", "a"}, nil, nil, [][]api.Sym{{0, 1}}, false},
		{[]string{"a", "b", "a"}, nil, []int{2}, [][]api.Sym{{0, 1}}, true}, // a layout may come everywhere
		{[]string{"a", "b", "a"}, [][2]int{{2, 0}}, []int{2}, [][]api.Sym{{0, 1}}, false},
		{[]string{"a", "b", "b"}, nil, []int{1, 2}, [][]api.Sym{{0}}, true},
		{[]string{"a", "b", "b"}, nil, nil, [][]api.Sym{{0}}, false}, // they come nowhere
	} {
		g := grammar(x.regexes, x.rights...)
		g.Over = x.over
		for _, n := range x.layout {
			g.Terms[n].Layout = true
		}
		_, _, err := lexical.Build(g)
		if want := map[bool]api.Errno{false: api.OK, true: api.ErrLex}[x.clash]; err != want || (len(lexical.Clashes(g)) > 0) != x.clash {
			t.Error(i, err, lexical.Clashes(g))
		}
	}
}

func TestClashesAreAllPairs(t *testing.T) {
	g := grammar([]string{"a", "a|b", "[a-c]", "c"}, []api.Sym{0, 1}, []api.Sym{1, 2}, []api.Sym{2, 0, 3}, []api.Sym{2, 2})
	g.Over = [][2]int{{0, 2}}
	tab, err := table.Build(g)
	d, err2 := mini.Of([]string{"a", "a|b", "[a-c]", "c"})
	if err != api.OK || err2 != api.OK {
		t.Fatal(err, err2)
	}
	var want [][2]int
	for state, may := range tab.May {
		for at, tags := range d.Tags {
			some := tags & may &^ (1 << sets.End)
			if some != 0 && bits.Count(munch.Win(some, g.Over)) != 1 {
				want = append(want, [2]int{state, at})
			}
		}
	}
	if got := lexical.Clashes(g); !slices.Equal(got, want) || len(want) < 2 {
		t.Error(got, want)
	}
}

func TestLayouts(t *testing.T) {
	var g api.Grammar
	for i := range 70 {
		g.Terms = append(g.Terms, api.Term{Layout: i%2 == 1 || i == 60})
	}
	var want api.Set
	for i := 1; i < 60; i += 2 {
		want |= 1 << i
	}
	if got := lexical.Layouts(g); got != want || lexical.Layouts(api.Grammar{}) != 0 {
		t.Error(got)
	}
}

func TestNothingIsShared(t *testing.T) {
	g := grammar([]string{"if", "[a-z]+"}, []api.Sym{0}, []api.Sym{1})
	g.Over = [][2]int{{0, 1}}
	s, tab := built(t, g)
	g.Over[0] = [2]int{1, 0}
	tab.May[0] = 0
	if tag, _ := lexical.Scan(s, 0, "if", 0); tag != 0 {
		t.Error("shared")
	}
}
