package look_test

import (
	"math/rand"
	"reflect"
	"slices"
	"strconv"
	"testing"

	"syntagm/api"
	"syntagm/bits"
	"syntagm/look"
	"syntagm/sets"
	"syntagm/states"
)

// some is a grammar of terminals a, b, c, of sorts A, B, C, and of some productions.
func some(rnd *rand.Rand) api.Grammar {
	g := api.Grammar{Sorts: []string{"A", "B", "C"}, Start: rnd.Intn(3)}
	for _, name := range []string{"a", "b", "c"} {
		g.Terms = append(g.Terms, api.Term{Name: name, Regex: name})
	}
	for i := range rnd.Intn(8) {
		p := api.Prod{Label: strconv.Itoa(i), Sort: rnd.Intn(3)}
		for range rnd.Intn(4) {
			p.Right = append(p.Right, api.Sym(rnd.Intn(6)-3))
		}
		g.Prods = append(g.Prods, p)
	}
	return g
}

func rowsOf(t *testing.T, g api.Grammar) []look.Row {
	t.Helper()
	l, err := look.All(g)
	if err != api.OK {
		t.Fatal(g, err)
	}
	return l
}

func TestExample(t *testing.T) {
	g := api.Grammar{Terms: []api.Term{{Name: "a"}}, Sorts: []string{"S"}, Prods: []api.Prod{{Label: "x", Right: []api.Sym{0}}}}
	end := bits.Of(sets.End)
	want := []look.Row{
		{[]states.Item{{Prod: -1, Dot: 0}, {Prod: 0, Dot: 0}}, []api.Set{end, end}},
		{[]states.Item{{Prod: 0, Dot: 1}}, []api.Set{end}},
		{[]states.Item{{Prod: -1, Dot: 1}}, []api.Set{end}},
	}
	l := rowsOf(t, g)
	if !reflect.DeepEqual(l, want) {
		t.Error(l)
	}
	if d := look.Done(g, l[1]); !slices.Equal(d, []int{0}) {
		t.Error(d)
	}
	if d := look.Done(g, l[2]); !slices.Equal(d, []int{-1}) {
		t.Error(d)
	}
	if d := look.Done(g, l[0]); len(d) != 0 {
		t.Error(d)
	}
}

// leastBy asks each of the three sentences of all items, again and again.
func leastBy(g api.Grammar, a states.Automaton) []map[states.Item]api.Set {
	l := make([]map[states.Item]api.Set, len(a.Kernels))
	for i := range l {
		l[i] = map[states.Item]api.Set{}
	}
	l[0][states.Item{Prod: -1}] = 1 << sets.End
	for again := true; again; {
		again = false
		add := func(state int, x states.Item, more api.Set) {
			if l[state][x]|more != l[state][x] {
				l[state][x] |= more
				again = true
			}
		}
		for state, kernel := range a.Kernels {
			for _, x := range states.Close(g, kernel) {
				s, ok := states.Behind(g, x)
				if !ok {
					continue
				}
				add(states.Go(g, a, state, s), states.Item{Prod: x.Prod, Dot: x.Dot + 1}, l[state][x])
				var rest []api.Sym
				if x.Prod >= 0 {
					rest = g.Prods[x.Prod].Right[x.Dot+1:]
				}
				for i, p := range g.Prods {
					if s < 0 && p.Sort == int(-1-s) {
						add(state, states.Item{Prod: i}, sets.Of(g, rest, l[state][x]))
					}
				}
			}
		}
	}
	return l
}

func TestTheyAreTheLeastSets(t *testing.T) {
	rnd := rand.New(rand.NewSource(1))
	for range 1500 {
		g := some(rnd)
		a, _ := states.Build(g)
		l := rowsOf(t, g)
		want := leastBy(g, a)
		follow := sets.Follow(g)
		if len(l) != len(a.Kernels) {
			t.Fatal(g)
		}
		for state, r := range l {
			if !slices.Equal(r.Items, states.Close(g, a.Kernels[state])) || len(r.Ahead) != len(r.Items) {
				t.Fatal(g, state)
			}
			var done []int
			for i, x := range r.Items {
				if r.Ahead[i] != want[state][x] {
					t.Fatal(g, state, x, r.Ahead[i], want[state][x])
				}
				if x.Prod >= 0 && r.Ahead[i]&^follow[g.Prods[x.Prod].Sort] != 0 {
					t.Fatal("ahead of what is done is nothing but what follows it")
				}
				if _, ok := states.Behind(g, x); !ok && r.Ahead[i] != 0 {
					done = append(done, x.Prod)
				}
			}
			if !slices.Equal(look.Done(g, r), done) {
				t.Fatal(g, r, done)
			}
		}
		if !reflect.DeepEqual(look.Ahead(g, a), l) {
			t.Fatal(g)
		}
	}
}

func TestOfAnotherAutomaton(t *testing.T) {
	g := api.Grammar{Terms: []api.Term{{Name: "a"}}, Sorts: []string{"S"}, Prods: []api.Prod{{Label: "x", Right: []api.Sym{0}}}}
	for i, spoil := range []func(*states.Automaton){
		func(a *states.Automaton) { *a = states.Automaton{} },
		func(a *states.Automaton) { a.Next[0][0] = -1 },
		func(a *states.Automaton) { a.Next[0] = a.Next[0][:1] },
		func(a *states.Automaton) { a.Next = a.Next[:2] },
		func(a *states.Automaton) { a.Kernels[1][0].Dot = 0 },
		func(a *states.Automaton) { a.Kernels = a.Kernels[:2] },
	} {
		a, _ := states.Build(g)
		if len(look.Ahead(g, a)) != 3 {
			t.Fatal("of its own")
		}
		if spoil(&a); len(look.Ahead(g, a)) != 0 {
			t.Error(i)
		}
	}
	if a, _ := states.Build(g); len(look.Ahead(api.Grammar{}, a)) != 0 {
		t.Error("of no grammar")
	}
}

func TestErrors(t *testing.T) {
	if l, err := look.All(api.Grammar{}); err != api.ErrArg || len(l) != 0 {
		t.Error(l, err)
	}
	// S = a S, S = b S, S = a T0; T0 = a T1, T0 = b T1 ..: states know of which of the last bytes were an a.
	g := api.Grammar{Terms: []api.Term{{Name: "a"}, {Name: "b"}}}
	add := func(sort int, right ...api.Sym) {
		g.Prods = append(g.Prods, api.Prod{Label: strconv.Itoa(100 + len(g.Prods)), Sort: sort, Right: right})
	}
	for i := range 14 {
		g.Sorts = append(g.Sorts, strconv.Itoa(100+i))
		next := api.Sym(-2 - i)
		switch {
		case i == 0:
			add(0, 0, -1)
			add(0, 1, -1)
			add(0, 0, next)
		case i < 13:
			add(i, 0, next)
			add(i, 1, next)
		default:
			add(i)
		}
	}
	if l, err := look.All(g); err != api.ErrMany || len(l) != 0 {
		t.Error(len(l), err)
	}
}

func TestDoneOfAnyRow(t *testing.T) {
	g := api.Grammar{Terms: []api.Term{{Name: "a"}}, Sorts: []string{"S"}, Prods: []api.Prod{{Label: "x", Right: []api.Sym{0}}, {Label: "y"}}}
	r := look.Row{
		Items: []states.Item{{Prod: -2, Dot: 0}, {Prod: -1, Dot: 1}, {Prod: 0, Dot: 0}, {Prod: 0, Dot: 1}, {Prod: 0, Dot: 2}, {Prod: 1, Dot: -1}, {Prod: 1, Dot: 0}, {Prod: 7, Dot: 0}},
		Ahead: []api.Set{1, 2, 1, 1, 1, 1, 0, 1},
	}
	if d := look.Done(g, r); !slices.Equal(d, []int{-1, 0}) {
		t.Error(d)
	}
	if d := look.Done(api.Grammar{}, r); len(d) != 0 {
		t.Error(d)
	}
	if d := look.Done(g, look.Row{}); len(d) != 0 {
		t.Error(d)
	}
}

func TestWhatIsAheadOfNothing(t *testing.T) {
	// S = X c; X = B X a; B = a: no text is derived, but a is ahead of what stands within X, since it begins with a.
	g := api.Grammar{
		Terms: []api.Term{{Name: "a"}, {Name: "c"}},
		Sorts: []string{"B", "S", "X"},
		Prods: []api.Prod{{Label: "0", Sort: 1, Right: []api.Sym{-3, -3, 1}}, {Label: "1", Sort: 2, Right: []api.Sym{-1, -3}}, {Label: "2", Sort: 0, Right: []api.Sym{-3, 0}}},
		Start: 1,
	}
	a, _ := states.Build(g)
	want := leastBy(g, a)
	for state, r := range rowsOf(t, g) {
		for i, x := range r.Items {
			if r.Ahead[i] != want[state][x] {
				t.Error(state, x)
			}
		}
	}
}
