package derive_test

import (
	"testing"

	"syntagm/api"
	"syntagm/derive"
)

func grammar(prods ...api.Prod) api.Grammar {
	return api.Grammar{Terms: []api.Term{{Name: "a"}, {Name: "b"}}, Sorts: []string{"S", "T"}, Prods: prods}
}

func prod(sort int, right ...api.Sym) api.Prod { return api.Prod{Sort: sort, Right: right} }

func TestWays(t *testing.T) {
	list := grammar(prod(0, 0, -1), prod(0)) // S = a S, S = nothing
	both := grammar(prod(0, -1, -1), prod(0, 0))
	same := grammar(prod(0, -1), prod(0, 0))
	pair := grammar(prod(0, 0, -1, 1), prod(0))
	for i, x := range []struct {
		g    api.Grammar
		row  []int
		want int
	}{
		{list, nil, 1}, {list, []int{0, 0, 0}, 1}, {list, []int{0, 1}, 0},
		{both, nil, 0}, {both, []int{0}, 1}, {both, []int{0, 0}, 1}, {both, []int{0, 0, 0}, 2},
		{same, []int{0}, 2}, {same, []int{1}, 0},
		{pair, []int{0, 0, 1, 1}, 1}, {pair, []int{0, 1, 1}, 0},
	} {
		if got := derive.Ways(x.g, x.row); got != x.want {
			t.Error(i, got)
		}
	}
}

func TestBegins(t *testing.T) {
	pair := grammar(prod(0, 0, -1, 1), prod(0))
	two := grammar(prod(0, -2, 1), prod(1, 0, -2), prod(1, 0))
	for i, x := range []struct {
		g    api.Grammar
		row  []int
		want bool
	}{
		{pair, nil, true}, {pair, []int{0, 0}, true}, {pair, []int{0, 1}, true}, {pair, []int{0, 1, 1}, false}, {pair, []int{1}, false},
		{two, []int{0, 0, 0}, true}, {two, []int{0, 1}, true}, {two, []int{0, 1, 0}, false}, {two, nil, true},
	} {
		if got := derive.Begins(x.g, x.row); got != x.want {
			t.Error(i, got)
		}
	}
}
