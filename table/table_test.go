package table_test

import (
	"math"
	"math/rand"
	"reflect"
	"slices"
	"strconv"
	"testing"

	"syntagm/api"
	"syntagm/bits"
	"syntagm/derive"
	"syntagm/look"
	"syntagm/sets"
	"syntagm/states"
	"syntagm/table"
)

const a, b, c, A, B, C = api.Sym(0), api.Sym(1), api.Sym(2), api.Sym(-1), api.Sym(-2), api.Sym(-3)

// grammar is one of terminals a, b, c, and sorts A, B, C.
func grammar(start int, prods ...api.Prod) api.Grammar {
	g := api.Grammar{Sorts: []string{"A", "B", "C"}, Start: start, Prods: prods}
	for _, name := range []string{"a", "b", "c"} {
		g.Terms = append(g.Terms, api.Term{Name: name, Regex: name})
	}
	for i := range g.Prods {
		g.Prods[i].Label = strconv.Itoa(10 + i)
	}
	return g
}

func prod(sort int, right ...api.Sym) api.Prod { return api.Prod{Sort: sort, Right: right} }

func some(rnd *rand.Rand) api.Grammar {
	var l []api.Prod
	for range 2 + rnd.Intn(6) {
		p := prod(rnd.Intn(3))
		for range rnd.Intn(4) {
			p.Right = append(p.Right, api.Sym(rnd.Intn(6)-3))
		}
		l = append(l, p)
	}
	return grammar(rnd.Intn(3), l...)
}

func built(t *testing.T, g api.Grammar) table.Table {
	t.Helper()
	made, err := table.Build(g)
	if err != api.OK {
		t.Fatal(err)
	}
	return made
}

func TestKindsAreCounted(t *testing.T) {
	if table.Wrong != 0 || table.Shift != 1 || table.Reduce != 2 || table.Accept != 3 {
		t.Error("kinds")
	}
}

func TestBuild(t *testing.T) {
	// A = a A, A = nothing: states 0, that behind a, behind A, and behind a A.
	g := grammar(0, prod(0, a, A), prod(0))
	g.Terms, g.Sorts = g.Terms[:1], g.Sorts[:1]
	want := table.Table{
		Deeds: [][]table.Deed{{{table.Shift, 1}, {table.Reduce, 1}}, {{table.Shift, 1}, {table.Reduce, 1}}, {{}, {table.Accept, 0}}, {{}, {table.Reduce, 0}}},
		Next:  [][]int{{2}, {3}, {-1}, {-1}},
		May:   []api.Set{bits.Of(0, sets.End), bits.Of(0, sets.End), bits.Of(sets.End), bits.Of(sets.End)},
	}
	if got := built(t, g); !reflect.DeepEqual(got, want) {
		t.Error(got)
	}
	for n := range 20 {
		if ok, at := table.Run(g, want, make([]int, n)); !ok || at != n {
			t.Error(n, ok, at)
		}
	}
}

func TestAllThatCanBeDone(t *testing.T) {
	// A = A, A = a, A = a B, B = nothing: behind A one may accept, or go on; behind a one may reduce by two.
	g := grammar(0, prod(0, A), prod(0, a), prod(0, a, B), prod(1), prod(1, a))
	all, err := table.All(g)
	if err != api.OK {
		t.Fatal(err)
	}
	auto, _ := states.Build(g)
	behindA, behinda := states.Go(g, auto, 0, A), states.Go(g, auto, 0, a)
	if l := all[behindA][3]; !slices.Equal(l, []table.Deed{{table.Accept, 0}, {table.Reduce, 0}}) {
		t.Error(l)
	}
	if l := all[behinda][3]; !slices.Equal(l, []table.Deed{{table.Reduce, 1}, {table.Reduce, 3}}) {
		t.Error(l)
	}
	if l := all[behinda][0]; len(l) != 1 || l[0].Kind != table.Shift {
		t.Error(l)
	}
	if got := table.Clashes(g); !slices.Equal(got, [][2]int{{behinda, 3}, {behindA, 3}}) && !slices.Equal(got, [][2]int{{behindA, 3}, {behinda, 3}}) {
		t.Error(got)
	}
	if made, err := table.Build(g); err != api.ErrLR || !reflect.DeepEqual(made, table.Table{}) {
		t.Error(made, err)
	}
	// A = A A, A = a: behind A A one may shift, or reduce.
	g = grammar(0, prod(0, A, A), prod(0, a))
	all, _ = table.All(g)
	found := false
	for _, columns := range all {
		l := columns[0]
		found = found || len(l) == 2 && l[0].Kind == table.Shift && l[1] == table.Deed{table.Reduce, 0}
	}
	if !found || len(table.Clashes(g)) == 0 {
		t.Error(all)
	}
}

func TestErrors(t *testing.T) {
	bad := grammar(3, prod(0, a))
	if all, err := table.All(bad); err != api.ErrArg || len(all) != 0 {
		t.Error(all, err)
	}
	if made, err := table.Build(bad); err != api.ErrArg || !reflect.DeepEqual(made, table.Table{}) {
		t.Error(made, err)
	}
	if len(table.Clashes(bad)) != 0 {
		t.Error("clashes")
	}
	many := grammar(0, prod(0, a, A), prod(0, b, A), prod(0, a, B))
	for i := 1; i < 14; i++ {
		many.Sorts = append(many.Sorts, "D"+strconv.Itoa(10+i))
		to := api.Sym(-2 - i)
		many.Prods = append(many.Prods, api.Prod{Label: strconv.Itoa(200 + 2*i), Sort: i, Right: []api.Sym{a, to}}, api.Prod{Label: strconv.Itoa(201 + 2*i), Sort: i, Right: []api.Sym{b, to}})
	}
	if _, err := table.Build(many); err != api.ErrMany {
		t.Error(err)
	}
	if _, err := table.All(many); err != api.ErrMany {
		t.Error(err)
	}
	if len(table.Clashes(many)) != 0 {
		t.Error("clashes")
	}
}

func words(most int) [][]int {
	l := [][]int{nil}
	for from := 0; len(l[from]) < most; from++ {
		for t := range 3 {
			l = append(l, append(slices.Clone(l[from]), t))
		}
	}
	return l
}

// useful tells whether a text is derived from each sort.
func useful(g api.Grammar) bool { return !slices.Contains(sets.Lives(g), false) }

func TestItAcceptsJustWhatIsDerived(t *testing.T) {
	rnd := rand.New(rand.NewSource(1))
	all := words(4)
	tables := 0
	for range 1200 {
		g := some(rnd)
		made, err := table.Build(g)
		if (err == api.OK) != (len(table.Clashes(g)) == 0) {
			t.Fatal(g, err)
		}
		if err != api.OK {
			continue
		}
		tables++
		live := useful(g)
		for _, row := range all {
			ok, at := table.Run(g, made, row)
			if ways := derive.Ways(g, row); ok != (ways == 1) || !ok && ways != 0 || ok && at != len(row) {
				t.Fatal(g, row, ok, at, ways)
			}
			if live && !ok && (!derive.Begins(g, row[:at]) || at < len(row) && derive.Begins(g, row[:at+1])) {
				t.Fatal(g, row, at)
			}
		}
	}
	if tables < 200 {
		t.Error(tables)
	}
}

// TestTheTableIsWhatCanBeDone holds a table against rows and states.
func TestTheTableIsWhatCanBeDone(t *testing.T) {
	rnd := rand.New(rand.NewSource(2))
	for range 1000 {
		g := some(rnd)
		all, _ := table.All(g)
		rows, _ := look.All(g)
		auto, _ := states.Build(g)
		if len(all) != len(rows) {
			t.Fatal(g)
		}
		for state, r := range rows {
			for column := range 4 {
				var want []table.Deed
				end := column
				if column < 3 {
					if to := states.Go(g, auto, state, api.Sym(column)); to >= 0 {
						want = append(want, table.Deed{table.Shift, to})
					}
				} else {
					end = sets.End
				}
				for i, x := range r.Items {
					if _, ok := states.Behind(g, x); ok || r.Ahead[i]&(1<<end) == 0 {
						continue
					}
					if x.Prod < 0 {
						want = append(want, table.Deed{table.Accept, 0})
					} else {
						want = append(want, table.Deed{table.Reduce, x.Prod})
					}
				}
				if !slices.Equal(all[state][column], want) {
					t.Fatal(g, state, column, all[state][column], want)
				}
			}
		}
		made, err := table.Build(g)
		if err != api.OK {
			continue
		}
		for state, row := range made.Deeds {
			var may api.Set
			for column, d := range row {
				if l := all[state][column]; len(l) == 1 && l[0] != d || len(l) == 0 && d != (table.Deed{}) {
					t.Fatal(g, state, column)
				}
				if d.Kind != table.Wrong {
					may = bits.With(may, []int{0, 1, 2, sets.End}[column])
				}
			}
			if may != made.May[state] {
				t.Fatal(g, state)
			}
			for sort := range g.Sorts {
				if made.Next[state][sort] != states.Go(g, auto, state, api.Sym(-1-sort)) {
					t.Fatal(g, state, sort)
				}
			}
		}
	}
}

func TestRun(t *testing.T) {
	g := grammar(0, prod(0, a, A, b), prod(0))
	made := built(t, g)
	for _, x := range []struct {
		row []int
		ok  bool
		at  int
	}{
		{nil, true, 0}, {[]int{0, 1}, true, 2}, {[]int{0, 0, 1, 1}, true, 4}, {[]int{0, 0, 1}, false, 3}, {[]int{0, 1, 1}, false, 2}, {[]int{1}, false, 0},
		{[]int{0, 3}, false, 1}, {[]int{3}, false, 0}, {[]int{0, 1, 3}, false, 2}, {[]int{-1}, false, 0}, {[]int{0, math.MinInt}, false, 1}, {[]int{math.MaxInt}, false, 0}, {[]int{63}, false, 0},
	} {
		if ok, at := table.Run(g, made, x.row); ok != x.ok || at != x.at {
			t.Error(x, ok, at)
		}
	}
	for i, spoil := range []func(*table.Table){
		func(t *table.Table) { *t = table.Table{} },
		func(t *table.Table) { t.Deeds[0][0] = table.Deed{} },
		func(t *table.Table) { t.Deeds[0] = t.Deeds[0][:1] },
		func(t *table.Table) { t.Next[0][0] = -1 },
		func(t *table.Table) { t.May[0] = 0 },
		func(t *table.Table) { t.May = append(t.May, 0) },
	} {
		made := built(t, g)
		spoil(&made)
		if ok, at := table.Run(g, made, []int{0, 1}); ok || at != 0 {
			t.Error(i, ok, at)
		}
	}
	if ok, at := table.Run(grammar(0, prod(0, a)), made, []int{0}); ok || at != 0 {
		t.Error("the table of another grammar")
	}
	if ok, at := table.Run(api.Grammar{}, table.Table{}, nil); ok || at != 0 {
		t.Error("of no grammar")
	}
}

func TestNothingIsShared(t *testing.T) {
	g := grammar(0, prod(0, a, A, b), prod(0))
	made := built(t, g)
	again := built(t, g)
	for state := range made.Deeds {
		made.Deeds[state][0] = table.Deed{9, 9}
		made.Next[state][0] = 9
		made.May[state] = 9
	}
	if ok, at := table.Run(g, again, []int{0, 1}); !ok || at != 2 {
		t.Error("shared")
	}
}

func TestAnUsualGrammar(t *testing.T) {
	// A = A a B, A = B; B = b C, B = C; C = c: two operations, the second one ahead of all.
	g := grammar(0, prod(0, A, a, B), prod(0, B), prod(1, b, C), prod(1, C), prod(2, c))
	made := built(t, g)
	if ok, at := table.Run(g, made, []int{2, 0, 1, 2, 0, 2}); !ok || at != 6 {
		t.Error(ok, at)
	}
	// It needs what is ahead of states alone, not of sorts: A = B b B, A = C; B = c C, B = a; C = B.
	g = grammar(0, prod(0, B, b, C), prod(0, C), prod(1, c, C), prod(1, a), prod(2, B))
	if ok, _ := table.Run(g, built(t, g), []int{2, 0, 1, 2, 0}); !ok {
		t.Error("it has a table")
	}
}
