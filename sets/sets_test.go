package sets_test

import (
	"math"
	"math/rand"
	"reflect"
	"slices"
	"strconv"
	"testing"

	"syntagm/api"
	"syntagm/bits"
	"syntagm/inst"
	"syntagm/sets"
)

// some is a grammar of terminals a, b, c, of sorts A, B, C, and of some productions.
func some(rnd *rand.Rand) api.Grammar {
	g := api.Grammar{Sorts: []string{"A", "B", "C"}, Start: rnd.Intn(3)}
	for _, name := range []string{"a", "b", "c"} {
		g.Terms = append(g.Terms, api.Term{Name: name, Regex: name})
	}
	for i := range rnd.Intn(7) {
		p := api.Prod{Label: strconv.Itoa(i), Sort: rnd.Intn(3)}
		for range rnd.Intn(4) {
			p.Right = append(p.Right, api.Sym(rnd.Intn(6)-3))
		}
		g.Prods = append(g.Prods, p)
	}
	return g
}

func grammar(start int, prods ...api.Prod) api.Grammar {
	g := some(rand.New(rand.NewSource(1)))
	g.Start, g.Prods = start, prods
	for i := range g.Prods {
		g.Prods[i].Label = strconv.Itoa(10 + i)
	}
	return g
}

func prod(sort int, right ...api.Sym) api.Prod { return api.Prod{Sort: sort, Right: right} }

const a, b, c, A, B, C = api.Sym(0), api.Sym(1), api.Sym(2), api.Sym(-1), api.Sym(-2), api.Sym(-3)

func TestExample(t *testing.T) {
	g := grammar(0, prod(0, a, A), prod(0))
	if !sets.Empty(g)[0] || sets.First(g)[0] != bits.Of(0) || sets.Follow(g)[0] != bits.Of(sets.End) || !sets.Lives(g)[0] || sets.Empty(g)[1] || sets.Lives(g)[1] {
		t.Error(sets.Empty(g), sets.First(g), sets.Follow(g), sets.Lives(g))
	}
}

func TestSets(t *testing.T) {
	// A = B C a; B = b, nothing; C = c C, B.
	g := grammar(0, prod(0, B, C, a), prod(1, b), prod(1), prod(2, c, C), prod(2, B))
	if got := sets.Empty(g); !slices.Equal(got, []bool{false, true, true}) {
		t.Error(got)
	}
	if got := sets.First(g); !slices.Equal(got, []api.Set{bits.Of(0, 1, 2), bits.Of(1), bits.Of(1, 2)}) {
		t.Error(got)
	}
	if got := sets.Follow(g); !slices.Equal(got, []api.Set{bits.Of(sets.End), bits.Of(0, 1, 2), bits.Of(0)}) {
		t.Error(got)
	}
	if got := sets.Lives(g); !slices.Equal(got, []bool{true, true, true}) {
		t.Error(got)
	}
}

func TestOf(t *testing.T) {
	g := grammar(0, prod(0, B, C, a), prod(1, b), prod(1), prod(2, c, C), prod(2, B))
	behind := bits.Of(5, sets.End)
	for _, x := range []struct {
		l    []api.Sym
		want api.Set
	}{
		{nil, behind},
		{[]api.Sym{a}, bits.Of(0)},
		{[]api.Sym{B}, bits.Of(1, 5, sets.End)},
		{[]api.Sym{B, C}, bits.Of(1, 2, 5, sets.End)},
		{[]api.Sym{B, a, c}, bits.Of(0, 1)},
		{[]api.Sym{A}, bits.Of(0, 1, 2)},
		{[]api.Sym{3}, 0},
		{[]api.Sym{-4}, 0},
		{[]api.Sym{B, 3, a}, bits.Of(1)},
		{[]api.Sym{B, math.MinInt, a}, bits.Of(1)},
		{[]api.Sym{B, math.MaxInt}, bits.Of(1)},
	} {
		if got := sets.Of(g, x.l, behind); got != x.want {
			t.Errorf("%v: %v, want %v", x.l, bits.List(got), bits.List(x.want))
		}
	}
}

func TestNoTerminals(t *testing.T) {
	g := api.Grammar{Sorts: []string{"S"}, Prods: []api.Prod{{Label: "x"}}}
	if sets.Of(g, []api.Sym{A, 0, A}, 1) != 0 || sets.Of(g, []api.Sym{A}, 1) != 1 || sets.First(g)[0] != 0 || !sets.Empty(g)[0] {
		t.Error("there is no terminal")
	}
}

func TestNotValid(t *testing.T) {
	g := grammar(3, prod(0, a))
	for _, g := range []api.Grammar{g, {}} {
		if len(sets.Empty(g)) != 0 || len(sets.First(g)) != 0 || len(sets.Follow(g)) != 0 || len(sets.Lives(g)) != 0 || sets.Of(g, []api.Sym{a}, 1) != 0 || sets.Of(g, nil, 1) != 0 {
			t.Error("something is answered")
		}
	}
}

// emptyBy tells whether nothing is derived from a sort by a tree that is no deeper; with three sorts 4 is deep enough.
func emptyBy(g api.Grammar, sort, deep int) bool {
	if deep == 0 {
		return false
	}
	for _, p := range g.Prods {
		all := p.Sort == sort
		for _, s := range p.Right {
			all = all && s < 0 && emptyBy(g, int(-1-s), deep-1)
		}
		if all {
			return true
		}
	}
	return false
}

func livesBy(g api.Grammar, sort, deep int) bool {
	if deep == 0 {
		return false
	}
	for _, p := range g.Prods {
		all := p.Sort == sort
		for _, s := range p.Right {
			all = all && (s >= 0 || livesBy(g, int(-1-s), deep-1))
		}
		if all {
			return true
		}
	}
	return false
}

func firstBy(g api.Grammar, sort, deep int) api.Set {
	var out api.Set
	for _, p := range g.Prods {
		if p.Sort != sort || deep == 0 {
			continue
		}
		for _, s := range p.Right {
			if s >= 0 {
				out |= 1 << s
				break
			}
			out |= firstBy(g, int(-1-s), deep-1)
			if !emptyBy(g, int(-1-s), 4) {
				break
			}
		}
	}
	return out
}

// holds tells whether sets are such as Follow's sentence asks.
func holds(g api.Grammar, follow []api.Set) bool {
	if follow[g.Start]&(1<<sets.End) == 0 {
		return false
	}
	for _, p := range g.Prods {
		for i, s := range p.Right {
			if s < 0 && sets.Of(g, p.Right[i+1:], follow[p.Sort])&^follow[-1-s] != 0 {
				return false
			}
		}
	}
	return true
}

func TestTheyAreTheLeastSets(t *testing.T) {
	rnd := rand.New(rand.NewSource(2))
	for range 3000 {
		g := some(rnd)
		if !inst.Valid(g) {
			t.Fatal(g)
		}
		empty, lives, first, follow := sets.Empty(g), sets.Lives(g), sets.First(g), sets.Follow(g)
		for sort := range g.Sorts {
			if empty[sort] != emptyBy(g, sort, 4) || lives[sort] != livesBy(g, sort, 4) || first[sort] != firstBy(g, sort, 4) {
				t.Fatal(g, empty, lives, first)
			}
		}
		if !holds(g, follow) {
			t.Fatal(g, follow)
		}
		if least := leastFollow(g); !slices.Equal(least, follow) {
			t.Fatal(g, follow, least)
		}
	}
}

// leastFollow finds, member by member, what is said to follow: by pairs of a sort and a number, from the first ones on.
func leastFollow(g api.Grammar) []api.Set {
	type member struct{ sort, n int }
	there := map[member]bool{{g.Start, sets.End}: true}
	for again := true; again; {
		again = false
		add := func(m member) {
			if !there[m] {
				there[m] = true
				again = true
			}
		}
		for _, p := range g.Prods {
			for i, s := range p.Right {
				if s >= 0 {
					continue
				}
				for n := range 64 {
					in := sets.Of(g, p.Right[i+1:], 0)&(1<<n) != 0
					through := sets.Of(g, p.Right[i+1:], 1<<40) != sets.Of(g, p.Right[i+1:], 0)
					if in || through && there[member{p.Sort, n}] {
						add(member{int(-1 - s), n})
					}
				}
			}
		}
	}
	l := make([]api.Set, len(g.Sorts))
	for m := range there {
		l[m.sort] |= 1 << m.n
	}
	return l
}

func TestTheArgumentIsLeft(t *testing.T) {
	rnd := rand.New(rand.NewSource(3))
	g := some(rnd)
	again := some(rand.New(rand.NewSource(3)))
	sets.Empty(g)[0] = true
	sets.First(g)
	sets.Follow(g)
	sets.Lives(g)
	sets.Of(g, g.Prods[0].Right, 0)
	if !reflect.DeepEqual(g, again) {
		t.Error("changed")
	}
}
