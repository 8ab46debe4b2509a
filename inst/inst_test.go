package inst_test

import (
	"math"
	"math/rand"
	"reflect"
	"slices"
	"strconv"
	"strings"
	"testing"

	"syntagm/api"
	"syntagm/inst"
	"syntagm/module"
	"syntagm/rename"
)

// items reads the declarations of a module's lines.
func items(t *testing.T, lines ...string) rename.Items {
	t.Helper()
	m, err, at := module.Parse("module m\n" + strings.Join(lines, "\n"))
	if err != api.OK {
		t.Fatal(lines, err, at)
	}
	return rename.Items{Terms: m.Terms, Over: m.Over, Rules: m.Rules}
}

func prods(g api.Grammar) []string {
	var l []string
	for _, p := range g.Prods {
		s := p.Label + ": " + g.Sorts[p.Sort] + " ="
		for _, x := range p.Right {
			if x >= 0 {
				s += " " + g.Terms[x].Name
			} else {
				s += " " + g.Sorts[-1-x]
			}
		}
		l = append(l, s)
	}
	return l
}

func TestPlain(t *testing.T) {
	x := items(t, "term b /b/ class 2", "term a /a/ layout", "over b a", "over a b", "over b a", "rule y T = b", "rule x S = a T S ; 7", "rule z S =")
	g, err := inst.Flat(x, "S")
	want := api.Grammar{
		Terms: []api.Term{{Name: "a", Regex: "a", Layout: true}, {Name: "b", Regex: "b", Class: 2}},
		Over:  [][2]int{{0, 1}, {1, 0}},
		Sorts: []string{"S", "T"},
		Prods: []api.Prod{{Label: "x", Sort: 0, Right: []api.Sym{0, -2, -1}, Class: 7}, {Label: "y", Sort: 1, Right: []api.Sym{1}}, {Label: "z", Sort: 0}},
		Start: 0,
	}
	if err != api.OK || !inst.Same(g, want) || !inst.Valid(g) {
		t.Error(g, err)
	}
	if g, err := inst.Flat(x, "T"); err != api.OK || g.Start != 1 {
		t.Error(g, err)
	}
}

func TestArguments(t *testing.T) {
	x := items(t, "term a /a/", "term c /,/",
		"rule s S = List(E) Opt(List(a))",
		"rule e E = a",
		"rule l List(x) = x c List(x) ; 5",
		"rule m List(y) = y",
		"rule o Opt(x) = x",
		"rule p Opt(z) =")
	g, err := inst.Flat(x, "S")
	if err != api.OK || !inst.Valid(g) {
		t.Fatal(err)
	}
	want := []string{
		"e: E = a",
		"l(E): List(E) = E c List(E)",
		"l(a): List(a) = a c List(a)",
		"m(E): List(E) = E",
		"m(a): List(a) = a",
		"o(List(a)): Opt(List(a)) = List(a)",
		"p(List(a)): Opt(List(a)) =",
		"s: S = List(E) Opt(List(a))",
	}
	if !slices.Equal(prods(g), want) || g.Prods[1].Class != 5 {
		t.Error(strings.Join(prods(g), "\n"))
	}
	if !slices.Equal(g.Sorts, []string{"E", "List(E)", "List(a)", "Opt(List(a))", "S"}) {
		t.Error(g.Sorts)
	}
}

func TestTheOwnNameIsTheArgument(t *testing.T) {
	// Deep inside, also where a terminal, or a sort, has its name; and only where it has no argument itself.
	x := items(t, "term a /a/", "term x /x/", "rule s S = L(a) x", "rule l L(x) = x K(x) K(L(x))", "rule k K(S) = S")
	g, err := inst.Flat(x, "S")
	want := []string{"k(L(a)): K(L(a)) = L(a)", "k(a): K(a) = a", "l(a): L(a) = a K(a) K(L(a))", "s: S = L(a) x"}
	if err != api.OK || !slices.Equal(prods(g), want) {
		t.Error(prods(g), err)
	}
	if _, err := inst.Flat(items(t, "term a /a/", "rule s S = L(a)", "rule l L(x) = x(a)"), "S"); err != api.ErrNone {
		t.Error(err)
	}
}

func TestOnlyWhatIsNeeded(t *testing.T) {
	// A sort with an argument that nobody needs has no production; one within an argument is needed.
	x := items(t, "term a /a/", "rule s S = L(K(a))", "rule l L(x) =", "rule k K(x) = x", "rule n N(x) = none", "rule o Other = a")
	g, err := inst.Flat(x, "S")
	if err != api.OK || !slices.Equal(g.Sorts, []string{"K(a)", "L(K(a))", "Other", "S"}) {
		t.Error(g.Sorts, err)
	}
}

func TestErrors(t *testing.T) {
	for _, x := range []struct {
		want  api.Errno
		start string
		lines []string
	}{
		{api.ErrClash, "S", []string{"term a /a/", "term a /b/", "rule s S ="}},
		{api.ErrClash, "S", []string{"rule s S =", "rule s S = S"}},
		{api.ErrClash, "none", []string{"term S /a/", "rule s S =", "rule l L(x) =", "rule m L ="}},
		{api.ErrArity, "none", []string{"rule l L(x) =", "rule m L =", "over q r"}},
		{api.ErrArity, "S", []string{"rule s S =", "rule l L(x(y)) ="}},
		{api.ErrNone, "none", []string{"rule s S =", "over q r"}},
		{api.ErrNone, "S", []string{"term a /a/", "rule s S =", "over a S"}},
		{api.ErrStart, "none", []string{"rule s S = none"}},
		{api.ErrStart, "", []string{"rule s S ="}},
		{api.ErrStart, "a", []string{"term a /a/", "rule s S ="}},
		{api.ErrStart, "L", []string{"rule l L(x) ="}},
		{api.ErrNone, "S", []string{"rule s S = none"}},
		{api.ErrNone, "S", []string{"rule s S = none(S)"}},
		{api.ErrNone, "S", []string{"rule s S = L(none)", "rule l L(x) ="}},
		{api.ErrNone, "S", []string{"rule s S = L(S)", "rule l L(x) = y"}},
		{api.ErrArity, "S", []string{"term a /a/", "rule s S = a(S)"}},
		{api.ErrArity, "S", []string{"rule s S = T(S)", "rule t T ="}},
		{api.ErrArity, "S", []string{"rule s S = L", "rule l L(x) ="}},
		{api.ErrArity, "S", []string{"rule s S = L(L)", "rule l L(x) ="}},
		{api.ErrArity, "S", []string{"rule s S = S(none)"}}, // the outside first
		{api.ErrArity, "S", []string{"rule a S = L", "rule b S = none", "rule l L(x) ="}},
		{api.ErrNone, "S", []string{"rule b S = L", "rule a S = none", "rule l L(x) ="}},
		{api.ErrNone, "S", []string{"rule s S = none L", "rule l L(x) ="}},
		{api.OK, "S", []string{"rule s S = L(L(L(L(S))))", "rule l L(x) ="}},
		{api.ErrDeep, "S", []string{"rule s S = L(L(L(L(L(S)))))", "rule l L(x) ="}},
		{api.ErrDeep, "S", []string{"rule s S = L(S)", "rule l L(x) = L(L(x))"}},
		{api.ErrNone, "S", []string{"rule s S = L(S)", "rule l L(x) = none L(L(x))"}},
	} {
		g, err := inst.Flat(items(t, x.lines...), x.start)
		if err != x.want || err != api.OK && !reflect.DeepEqual(g, api.Grammar{}) {
			t.Errorf("%q: %v, want %v", x.lines, err, x.want)
		}
	}
	two := rename.Items{Rules: []api.Rule{{Label: "s", Sort: api.Name{Of: "S", Arg: []api.Name{{Of: "x"}, {Of: "y"}}}}}}
	if _, err := inst.Flat(two, "S"); err != api.ErrArity {
		t.Error(err)
	}
	two.Rules[0].Sort.Arg = nil
	two.Rules[0].Right = []api.Name{{Of: "L", Arg: []api.Name{{Of: "S"}, {Of: "S"}}}}
	two.Rules = append(two.Rules, api.Rule{Label: "l", Sort: api.Name{Of: "L", Arg: []api.Name{{Of: "x"}}}})
	if _, err := inst.Flat(two, "S"); err != api.ErrArity {
		t.Error(err)
	}
}

func numbered(n int, line func(i string) string) []string {
	var l []string
	for i := range n {
		l = append(l, line(strconv.Itoa(100+i)))
	}
	return l
}

func TestMany(t *testing.T) {
	terms := func(n int) []string { return numbered(n, func(i string) string { return "term t" + i + " /a/" }) }
	sorts := func(n int) []string {
		return numbered(n, func(i string) string { return "rule r" + i + " S" + i + " =" })
	}
	rules := func(n int) []string { return numbered(n, func(i string) string { return "rule r" + i + " S =" }) }
	needs := func(n int) []string {
		return append(numbered(n, func(i string) string { return "rule s" + i + " S = L(t" + i + ")" }), "rule l L(x) = x")
	}
	for _, x := range []struct {
		name  string
		want  api.Errno
		start string
		lines []string
	}{
		{"60 terminals", api.OK, "S", append(terms(60), "rule s S =")},
		{"120 productions", api.OK, "S", rules(120)},
		{"60 sorts", api.OK, "S100", sorts(60)},
		{"61 sorts", api.ErrMany, "S100", sorts(61)},
		{"60 sorts, needed", api.OK, "S", append(terms(59), needs(59)...)},
		{"61 sorts, needed", api.ErrMany, "S", append(terms(60), needs(60)...)},
	} {
		g, err := inst.Flat(items(t, x.lines...), x.start)
		if err != x.want || (err == api.OK) != inst.Valid(g) {
			t.Error(x.name, err)
		}
	}
	// What a module's text can't tell: more terminals, and more rules.
	x := items(t, terms(60)...)
	x.Terms = append(x.Terms, api.Term{Name: "z"})
	x.Rules = []api.Rule{{Label: "s", Sort: api.Name{Of: "S"}, Right: []api.Name{{Of: "none"}}}}
	if _, err := inst.Flat(x, "S"); err != api.ErrMany {
		t.Error("61 terminals, ahead of all productions", err)
	}
	if _, err := inst.Flat(x, "none"); err != api.ErrStart {
		t.Error(err)
	}
	x = items(t, rules(120)...)
	x.Rules = append(x.Rules, api.Rule{Label: "z", Sort: api.Name{Of: "S"}})
	if _, err := inst.Flat(x, "S"); err != api.ErrMany {
		t.Error("121 productions", err)
	}
	x = items(t, "rule s S =")
	x.Rules[0].Right = slices.Repeat([]api.Name{{Of: "S"}}, 12)
	if g, err := inst.Flat(x, "S"); err != api.OK || !inst.Valid(g) {
		t.Error("12 symbols", err)
	}
}

func TestItDoesNotDependOnTheOrder(t *testing.T) {
	rnd := rand.New(rand.NewSource(1))
	x := items(t, "term a /a/", "term b /b/", "term c /c/", "over a b", "over c a", "rule s S = L(a) K(L(b)) L(S)", "rule l L(x) = x K(x)", "rule k K(x) = x", "rule m L(x) = c")
	want, err := inst.Flat(x, "S")
	if err != api.OK {
		t.Fatal(err)
	}
	for range 50 {
		rnd.Shuffle(len(x.Rules), func(i, j int) { x.Rules[i], x.Rules[j] = x.Rules[j], x.Rules[i] })
		rnd.Shuffle(len(x.Terms), func(i, j int) { x.Terms[i], x.Terms[j] = x.Terms[j], x.Terms[i] })
		rnd.Shuffle(len(x.Over), func(i, j int) { x.Over[i], x.Over[j] = x.Over[j], x.Over[i] })
		if g, err := inst.Flat(x, "S"); err != api.OK || !inst.Same(g, want) {
			t.Fatal(g, err)
		}
	}
}

func TestNamesThatAreNone(t *testing.T) {
	name := func(of string, arg ...api.Name) api.Name { return api.Name{Of: of, Arg: arg} }
	x := rename.Items{
		Terms: []api.Term{{Name: "a"}, {Name: ""}},
		Rules: []api.Rule{
			{Label: "l", Sort: name("L", name("x")), Right: []api.Name{name("x")}},
			{Label: "l(a)", Sort: name("S"), Right: []api.Name{name("L", name("a")), name("L(a)"), name("")}},
			{Label: "z", Sort: name("L(a)"), Right: []api.Name{name("S")}},
			{Label: "", Sort: name("L(a)")},
		},
	}
	g, err := inst.Flat(x, "S")
	if err != api.OK || !inst.Valid(g) {
		t.Error(g, err)
	}
	rnd := rand.New(rand.NewSource(2))
	texts := []string{"S", "L", "L(a)", "a", "x", "L(L(a))", "", "l", "l(a)"}
	fine := 0
	for range 20000 {
		pick := func() string { return texts[rnd.Intn(len(texts))] }
		var symbol func() api.Name
		symbol = func() api.Name {
			if rnd.Intn(3) == 0 {
				return name(pick(), symbol())
			}
			return name(pick())
		}
		x := rename.Items{Terms: []api.Term{{Name: "a"}}}
		for i := range 1 + rnd.Intn(5) {
			r := api.Rule{Label: pick() + strconv.Itoa(i)[:rnd.Intn(2)], Sort: name(texts[rnd.Intn(3)])}
			if r.Sort.Of == "L" {
				r.Sort.Arg = []api.Name{name("x")}
			}
			for range rnd.Intn(3) {
				r.Right = append(r.Right, symbol())
			}
			x.Rules = append(x.Rules, r)
		}
		g, err := inst.Flat(x, "S")
		if err == api.OK {
			fine++
		}
		if (err == api.OK) != inst.Valid(g) {
			t.Fatal(x, g, err)
		}
	}
	if fine < 100 {
		t.Error(fine)
	}
}

func good() api.Grammar {
	return api.Grammar{
		Terms: []api.Term{{Name: "a"}, {Name: "b"}},
		Over:  [][2]int{{0, 1}},
		Sorts: []string{"S", "T"},
		Prods: []api.Prod{{Label: "x", Sort: 0, Right: []api.Sym{0, -2, 1, -1}}, {Label: "y", Sort: 1}},
		Start: 1,
	}
}

func TestValid(t *testing.T) {
	if !inst.Valid(good()) || inst.Valid(api.Grammar{}) {
		t.Error("good")
	}
	for i, spoil := range []func(*api.Grammar){
		func(g *api.Grammar) { g.Start = 2 },
		func(g *api.Grammar) { g.Start = -1 },
		func(g *api.Grammar) { g.Prods[0].Sort = 2 },
		func(g *api.Grammar) { g.Prods[0].Sort = -1 },
		func(g *api.Grammar) { g.Prods[0].Right[0] = 2 },
		func(g *api.Grammar) { g.Terms, g.Over, g.Prods[0].Right = nil, nil, []api.Sym{0} },
		func(g *api.Grammar) { g.Prods[0].Right[0] = -3 },
		func(g *api.Grammar) { g.Prods[0].Right[0] = math.MinInt },
		func(g *api.Grammar) { g.Prods[0].Right[0] = math.MaxInt },
		func(g *api.Grammar) { g.Prods[0].Right = make([]api.Sym, 13) },
		func(g *api.Grammar) { g.Over[0][0] = 2 },
		func(g *api.Grammar) { g.Over[0][1] = -1 },
		func(g *api.Grammar) { g.Sorts[1] = "S" },
		func(g *api.Grammar) { g.Sorts[1] = "A" },
		func(g *api.Grammar) { g.Prods[1].Label = "x" },
		func(g *api.Grammar) { g.Terms[1].Name = "a" },
		func(g *api.Grammar) { g.Terms = rising(61, func(s string) api.Term { return api.Term{Name: s} }) },
		func(g *api.Grammar) { g.Sorts = rising(61, func(s string) string { return s }) },
		func(g *api.Grammar) { g.Prods = rising(121, func(s string) api.Prod { return api.Prod{Label: s} }) },
	} {
		g := good()
		if spoil(&g); inst.Valid(g) || inst.Same(g, good()) || inst.Same(good(), g) {
			t.Error(i)
		}
	}
	g := good()
	g.Terms = rising(60, func(s string) api.Term { return api.Term{Name: s} })
	g.Sorts = rising(60, func(s string) string { return s })
	g.Prods = rising(120, func(s string) api.Prod { return api.Prod{Label: s, Right: make([]api.Sym, 12)} })
	if !inst.Valid(g) {
		t.Error("just so many may be")
	}
}

func rising[T any](n int, of func(string) T) []T {
	var l []T
	for i := range n {
		l = append(l, of(strconv.Itoa(100+i)))
	}
	return l
}

func TestSame(t *testing.T) {
	if !inst.Same(good(), good()) || !inst.Same(api.Grammar{}, api.Grammar{Terms: []api.Term{}, Prods: []api.Prod{}}) {
		t.Error("alike")
	}
	for i, spoil := range []func(*api.Grammar){
		func(g *api.Grammar) { g.Terms[0].Class = 1 },
		func(g *api.Grammar) { g.Prods[0].Class = 1 },
		func(g *api.Grammar) { g.Prods[1].Right = []api.Sym{0} },
		func(g *api.Grammar) { g.Over = nil },
	} {
		g := good()
		if spoil(&g); inst.Same(g, good()) {
			t.Error(i)
		}
	}
}

func TestFind(t *testing.T) {
	l := []string{"b", "a", "b"}
	if inst.Find(l, "b") != 0 || inst.Find(l, "a") != 1 || inst.Find(l, "c") != -1 || inst.Find(nil, "") != -1 {
		t.Error("find")
	}
}

func TestTheArgumentIsLeft(t *testing.T) {
	lines := []string{"term b /b/", "term a /a/", "over b a", "rule s S = L(a)", "rule l L(x) = x L(x)"}
	x := items(t, lines...)
	g, _ := inst.Flat(x, "S")
	g.Terms[0].Name, g.Prods[0].Right[0], g.Over[0][0] = "?", 1, 1
	if !reflect.DeepEqual(x, items(t, lines...)) {
		t.Error("changed")
	}
}
