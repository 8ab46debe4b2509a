package states_test

import (
	"math"
	"math/rand"
	"reflect"
	"slices"
	"strconv"
	"testing"

	"syntagm/api"
	"syntagm/inst"
	"syntagm/states"
)

// some is a grammar of terminals a, b, c, of sorts A, B, C, and of some productions.
func some(rnd *rand.Rand) api.Grammar {
	g := api.Grammar{Sorts: []string{"A", "B", "C"}, Start: rnd.Intn(3)}
	for _, name := range []string{"a", "b", "c"} {
		g.Terms = append(g.Terms, api.Term{Name: name, Regex: name})
	}
	for i := range rnd.Intn(7) {
		p := api.Prod{Label: strconv.Itoa(i), Sort: rnd.Intn(3)}
		for range rnd.Intn(4) {
			p.Right = append(p.Right, api.Sym(rnd.Intn(6)-3))
		}
		g.Prods = append(g.Prods, p)
	}
	return g
}

// grammar has terminals a and b, sorts S and T, and three productions.
func grammar() api.Grammar {
	return api.Grammar{
		Terms: []api.Term{{Name: "a"}, {Name: "b"}},
		Sorts: []string{"S", "T"},
		Prods: []api.Prod{{Label: "0", Sort: 0, Right: []api.Sym{0, -2}}, {Label: "1", Sort: 1, Right: []api.Sym{1}}, {Label: "2", Sort: 1}},
	}
}

func TestExample(t *testing.T) {
	g := api.Grammar{Terms: []api.Term{{Name: "a"}}, Sorts: []string{"S"}, Prods: []api.Prod{{Label: "x", Right: []api.Sym{0}}}}
	a, err := states.Build(g)
	want := states.Automaton{
		Kernels: [][]states.Item{{{-1, 0}}, {{0, 1}}, {{-1, 1}}},
		Next:    [][]int{{1, 2}, {-1, -1}, {-1, -1}},
	}
	if err != api.OK || !reflect.DeepEqual(a, want) {
		t.Error(a, err)
	}
}

func TestBehind(t *testing.T) {
	g := grammar()
	for _, x := range []struct {
		item states.Item
		s    api.Sym
		ok   bool
	}{
		{states.Item{-1, 0}, -1, true}, {states.Item{-1, 1}, 0, false}, {states.Item{0, 0}, 0, true}, {states.Item{0, 1}, -2, true}, {states.Item{0, 2}, 0, false}, {states.Item{2, 0}, 0, false},
		{states.Item{0, 3}, 0, false}, {states.Item{0, -1}, 0, false}, {states.Item{3, 0}, 0, false}, {states.Item{-2, 0}, 0, false}, {states.Item{-1, -1}, 0, false}, {states.Item{math.MaxInt, math.MinInt}, 0, false},
	} {
		if s, ok := states.Behind(g, x.item); s != x.s || ok != x.ok {
			t.Error(x, s, ok)
		}
	}
}

func TestClose(t *testing.T) {
	g := grammar()
	for _, x := range []struct{ l, want []states.Item }{
		{nil, nil},
		{[]states.Item{{-1, 0}}, []states.Item{{-1, 0}, {0, 0}}},
		{[]states.Item{{0, 1}}, []states.Item{{0, 1}, {1, 0}, {2, 0}}},
		{[]states.Item{{2, 0}, {0, 1}, {2, 0}, {-1, 1}}, []states.Item{{-1, 1}, {0, 1}, {1, 0}, {2, 0}}},
		{[]states.Item{{0, 9}, {-2, 0}, {3, 0}, {1, -1}}, nil},
		{[]states.Item{{0, 9}, {1, 1}}, []states.Item{{1, 1}}},
	} {
		if got := states.Close(g, x.l); !slices.Equal(got, x.want) {
			t.Error(x, got)
		}
	}
}

func TestStep(t *testing.T) {
	g := grammar()
	for _, x := range []struct {
		l    []states.Item
		s    api.Sym
		want []states.Item
	}{
		{[]states.Item{{-1, 0}}, 0, []states.Item{{0, 1}}},
		{[]states.Item{{-1, 0}}, -1, []states.Item{{-1, 1}}},
		{[]states.Item{{-1, 0}}, 1, nil},
		{[]states.Item{{0, 1}, {0, 1}}, -2, []states.Item{{0, 2}}},
		{[]states.Item{{0, 1}}, 1, []states.Item{{1, 1}}},
		{[]states.Item{{0, 1}}, math.MinInt, nil},
		{[]states.Item{{0, 2}}, 0, nil},
		{[]states.Item{{7, 0}}, 0, nil},
	} {
		if got := states.Step(g, x.l, x.s); !slices.Equal(got, x.want) {
			t.Error(x, got)
		}
	}
}

func TestNotValid(t *testing.T) {
	bad := grammar()
	bad.Start = 2
	for _, g := range []api.Grammar{bad, {}} {
		if a, err := states.Build(g); err != api.ErrArg || !reflect.DeepEqual(a, states.Automaton{}) {
			t.Error(a, err)
		}
		s, ok := states.Behind(g, states.Item{0, 0})
		if s != 0 || ok || len(states.Close(g, []states.Item{{-1, 0}, {0, 0}})) != 0 || len(states.Step(g, []states.Item{{0, 0}}, 0)) != 0 {
			t.Error("there is an item")
		}
	}
	if states.Go(api.Grammar{}, states.Automaton{Next: [][]int{{0}}}, 0, 0) != -1 || states.Go(grammar(), states.Automaton{}, 0, 0) != -1 {
		t.Error("there is a state")
	}
}

// closedBy adds items one by one, till nothing is new.
func closedBy(g api.Grammar, l []states.Item) []states.Item {
	all := map[states.Item]bool{}
	for _, x := range l {
		all[x] = true
	}
	for size := -1; size != len(all); {
		size = len(all)
		for x := range all {
			s, ok := states.Behind(g, x)
			for i, p := range g.Prods {
				if ok && s < 0 && p.Sort == int(-1-s) {
					l = append(l, states.Item{i, 0})
				}
			}
		}
		for _, x := range l {
			all[x] = true
		}
	}
	var out []states.Item
	for p := -1; p < len(g.Prods); p++ {
		for dot := range 5 {
			if all[states.Item{p, dot}] {
				out = append(out, states.Item{p, dot})
			}
		}
	}
	return out
}

func symbols(g api.Grammar) []api.Sym {
	var l []api.Sym
	for t := range g.Terms {
		l = append(l, api.Sym(t))
	}
	for s := range g.Sorts {
		l = append(l, api.Sym(-1-s))
	}
	return l
}

func TestBuild(t *testing.T) {
	rnd := rand.New(rand.NewSource(1))
	for range 1000 {
		g := some(rnd)
		before := g.Start
		a, err := states.Build(g)
		if err != api.OK || len(a.Next) != len(a.Kernels) || g.Start != before {
			t.Fatal(g, err)
		}
		come := 1 // states that are come to, in order
		for at, kernel := range a.Kernels {
			all := closedBy(g, kernel)
			if !slices.Equal(states.Close(g, kernel), all) || len(a.Next[at]) != 6 {
				t.Fatal(g, kernel)
			}
			for place, s := range symbols(g) {
				var step []states.Item
				for _, x := range all {
					if y, ok := states.Behind(g, x); ok && y == s {
						step = append(step, states.Item{x.Prod, x.Dot + 1})
					}
				}
				to := a.Next[at][place]
				if states.Go(g, a, at, s) != to || !slices.Equal(states.Step(g, kernel, s), step) || (to == -1) != (len(step) == 0) {
					t.Fatal(g, at, s)
				}
				if to == -1 {
					continue
				}
				if !slices.Equal(a.Kernels[to], step) || to > come {
					t.Fatal(g, at, s)
				}
				if to == come {
					come++
				}
				// Each state is come to by the symbol that is ahead of its dots.
				for _, x := range a.Kernels[to] {
					if y, ok := states.Behind(g, states.Item{x.Prod, x.Dot - 1}); !ok || y != s {
						t.Fatal(g, to, s)
					}
				}
			}
		}
		if come != len(a.Kernels) {
			t.Fatal("a state that is not come to")
		}
		for i, k := range a.Kernels {
			for _, other := range a.Kernels[:i] {
				if slices.Equal(k, other) {
					t.Fatal("two states of one kernel")
				}
			}
		}
	}
}

func TestGo(t *testing.T) {
	g := grammar()
	a, _ := states.Build(g)
	for _, x := range []struct {
		at int
		s  api.Sym
	}{{-1, 0}, {len(a.Next), 0}, {math.MaxInt, 0}, {0, 2}, {0, -3}, {0, math.MinInt}, {0, math.MaxInt}, {1, 0}} {
		if got := states.Go(g, a, x.at, x.s); got != -1 {
			t.Error(x, got)
		}
	}
	if states.Go(g, a, 0, 0) != 1 || states.Go(g, a, 0, -1) != 2 {
		t.Error(a)
	}
	a.Next[0] = []int{0, 0, 0, 0, 0, 0}
	if states.Go(g, a, 0, 1) != 0 || states.Go(g, a, 0, -3) != -1 || states.Go(g, a, 0, 2) != -1 {
		t.Error("a row may be longer than there are symbols, and go anywhere")
	}
}

// wide has so many states as there are sets of some places: each sort's production reads some of two terminals, in an order.
func wide(n int) api.Grammar {
	g := api.Grammar{Terms: []api.Term{{Name: "a"}, {Name: "b"}}}
	add := func(sort int, right ...api.Sym) {
		g.Prods = append(g.Prods, api.Prod{Label: strconv.Itoa(100 + len(g.Prods)), Sort: sort, Right: right})
	}
	sort := func(i int) api.Sym { return api.Sym(-1 - i) }
	for i := range n {
		g.Sorts = append(g.Sorts, strconv.Itoa(100+i))
		if i == 0 {
			add(0, 0, sort(0))
			add(0, 1, sort(0))
			add(0, 0, sort(1))
			continue
		}
		if i+1 < n {
			add(i, 0, sort(i+1))
			add(i, 1, sort(i+1))
		} else {
			add(i)
		}
	}
	return g
}

func TestTooMany(t *testing.T) {
	a, err := states.Build(wide(8))
	if err != api.OK || len(a.Next) < 128 {
		t.Error(err, len(a.Next))
	}
	if a, err := states.Build(wide(14)); err != api.ErrMany || !reflect.DeepEqual(a, states.Automaton{}) {
		t.Error(err)
	}
	if !inst.Valid(wide(14)) {
		t.Error("it is valid")
	}
}

// longer has so many states more: for each symbol of rows of 12 that have the first one alone in common.
func longer(g api.Grammar, more int) api.Grammar {
	c := len(g.Terms)
	for i := range 50 {
		g.Terms = append(g.Terms, api.Term{Name: "c" + strconv.Itoa(100+i)})
	}
	for i := 0; more > 0; i++ {
		if i%50 == 0 {
			more--
		}
		right := []api.Sym{api.Sym(c + i/50), api.Sym(c + i%50)}
		right = append(right, slices.Repeat(right[:1], 10)...)[:1+min(more, 11)]
		g.Prods = append(g.Prods, api.Prod{Label: strconv.Itoa(200 + i), Right: right})
		more -= len(right) - 1
	}
	return g
}

func TestJustSoManyStates(t *testing.T) {
	base, err := states.Build(wide(11))
	if err != api.OK {
		t.Fatal(err)
	}
	left := api.MaxStates - len(base.Next)
	if a, err := states.Build(longer(wide(11), left)); err != api.OK || len(a.Next) != api.MaxStates {
		t.Error(err, left)
	}
	if _, err := states.Build(longer(wide(11), left+1)); err != api.ErrMany {
		t.Error(err, left)
	}
}

func TestArgumentsAreLeft(t *testing.T) {
	g := grammar()
	l := []states.Item{{1, 0}, {0, 1}, {1, 0}}
	states.Close(g, l)[0] = states.Item{9, 9}
	states.Step(g, l, 1)
	a, _ := states.Build(g)
	a.Next[0][0] = 9
	if !slices.Equal(l, []states.Item{{1, 0}, {0, 1}, {1, 0}}) || !reflect.DeepEqual(g, grammar()) {
		t.Error("changed")
	}
}
