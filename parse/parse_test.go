package parse_test

import (
	"math/rand"
	"slices"
	"strconv"
	"strings"
	"testing"

	"syntagm/api"
	"syntagm/bits"
	"syntagm/derive"
	"syntagm/inst"
	"syntagm/parse"
	"syntagm/sets"
)

const a, b, c, A, B, C = api.Sym(0), api.Sym(1), api.Sym(2), api.Sym(-1), api.Sym(-2), api.Sym(-3)

// grammar is one of terminals a, b, c, and a blank that is layout, and of sorts A, B, C.
func grammar(prods ...api.Prod) api.Grammar {
	g := api.Grammar{Sorts: []string{"A", "B", "C"}, Prods: prods}
	for _, name := range []string{"a", "b", "c"} {
		g.Terms = append(g.Terms, api.Term{Name: name, Regex: name})
	}
	g.Terms = append(g.Terms, api.Term{Name: "space", Regex: " +", Layout: true})
	for i := range g.Prods {
		g.Prods[i].Label = strconv.Itoa(10 + i)
	}
	return g
}

func prod(sort int, right ...api.Sym) api.Prod { return api.Prod{Sort: sort, Right: right} }

func made(t *testing.T, g api.Grammar) *parse.Parser {
	t.Helper()
	p, err := parse.New(g)
	if err != api.OK {
		t.Fatal(err)
	}
	return p
}

func leaf(term, from, to int) api.Node { return api.Node{Prod: -1, Term: term, From: from, To: to} }

func node(prod, from, to int, kids ...api.Node) api.Node {
	return api.Node{Prod: prod, From: from, To: to, Kids: kids}
}

func count(n api.Node) int {
	sum := 1
	for _, kid := range n.Kids {
		sum += count(kid)
	}
	return sum
}

func TestExample(t *testing.T) {
	p := made(t, grammar(prod(0, a, A), prod(0)))
	r := p.Parse("aa")
	want := node(0, 0, 2, leaf(0, 0, 1), node(0, 1, 2, leaf(0, 1, 2), node(1, 2, 2)))
	if !r.OK || len(r.Trees) != 1 || !parse.Same(r.Trees[0], want) || count(r.Trees[0]) != 5 || r.At != 2 || r.Want != 0 {
		t.Error(r)
	}
	if r := p.Parse(""); !r.OK || !parse.Same(r.Trees[0], node(1, 0, 0)) {
		t.Error(r)
	}
}

func TestLayout(t *testing.T) {
	p := made(t, grammar(prod(0, a, B, A), prod(0), prod(1)))
	// What has nothing in it stands behind the layout.
	r := p.Parse(" a  a ")
	want := node(0, 1, 6, leaf(0, 1, 2), node(2, 4, 4), node(0, 4, 6, leaf(0, 4, 5), node(2, 6, 6), node(1, 6, 6)))
	if !r.OK || r.At != 6 || len(r.Trees) != 1 || !parse.Same(r.Trees[0], want) {
		t.Error(r)
	}
	if r := p.Parse("  "); !r.OK || !parse.Same(r.Trees[0], node(1, 2, 2)) {
		t.Error(r)
	}
	// Where the table has it, it is a terminal as any other: A = a space a.
	p = made(t, grammar(prod(0, a, 3, a)))
	if r := p.Parse(" a  a "); !r.OK || !parse.Same(r.Trees[0], node(0, 1, 5, leaf(0, 1, 2), leaf(3, 2, 4), leaf(0, 4, 5))) {
		t.Error(r)
	}
	if r := p.Parse("aa"); r.OK || r.At != 1 || r.Want != bits.Of(3) {
		t.Error(r)
	}
}

func TestTheFirstTerminalIsLayout(t *testing.T) {
	p := made(t, api.Grammar{
		Terms: []api.Term{{Name: "a", Regex: " ", Layout: true}, {Name: "b", Regex: "b"}},
		Sorts: []string{"S"},
		Prods: []api.Prod{{Label: "x", Right: []api.Sym{1, 1}}},
	})
	if r := p.Parse(" b  b"); !r.OK || !parse.Same(r.Trees[0], node(0, 1, 5, leaf(1, 1, 2), leaf(1, 4, 5))) {
		t.Error(r)
	}
}

func TestWrong(t *testing.T) {
	// A = a B b; B = c, B = nothing.
	p := made(t, grammar(prod(0, a, B, b), prod(1, c), prod(1)))
	for text, want := range map[string]parse.Result{
		"":      {At: 0, Want: bits.Of(0)},
		"b":     {At: 0, Want: bits.Of(0)},
		" x":    {At: 1, Want: bits.Of(0)},
		"a":     {At: 1, Want: bits.Of(1, 2), Trees: []api.Node{leaf(0, 0, 1)}},
		"a  ":   {At: 3, Want: bits.Of(1, 2), Trees: []api.Node{leaf(0, 0, 1)}},
		"a ca":  {At: 3, Want: bits.Of(1), Trees: []api.Node{leaf(0, 0, 1), leaf(2, 2, 3)}},
		"a c a": {At: 4, Want: bits.Of(1), Trees: []api.Node{leaf(0, 0, 1), leaf(2, 2, 3)}},
		"ab b":  {At: 3, Want: bits.Of(sets.End), Trees: []api.Node{leaf(0, 0, 1), node(2, 1, 1), leaf(1, 1, 2)}},
		"abx":   {At: 2, Want: bits.Of(sets.End), Trees: []api.Node{leaf(0, 0, 1), node(2, 1, 1), leaf(1, 1, 2)}},
	} {
		if got := p.Parse(text); !sameResult(got, want) {
			t.Errorf("%q: %v, want %v", text, got, want)
		}
	}
}

func sameResult(a, b parse.Result) bool {
	return a.OK == b.OK && a.At == b.At && a.Want == b.Want && slices.EqualFunc(a.Trees, b.Trees, parse.Same)
}

func TestWrongBehindReductions(t *testing.T) {
	// A = a B a, A = b B b; B = c C; C = nothing: behind a c one may reduce where a, or b, comes; what is wrong is told where that leads.
	p := made(t, grammar(prod(0, a, B, a), prod(0, b, B, b), prod(1, c, C), prod(2)))
	r := p.Parse("acb")
	want := parse.Result{At: 2, Want: bits.Of(0), Trees: []api.Node{leaf(0, 0, 1), node(2, 1, 2, leaf(2, 1, 2), node(3, 2, 2))}}
	if !sameResult(r, want) {
		t.Error(r)
	}
}

func TestTerminalsByWhatMayCome(t *testing.T) {
	g := api.Grammar{
		Terms: []api.Term{{Name: "id", Regex: "[a-z]+"}, {Name: "if", Regex: "if"}, {Name: "ws", Regex: `\s+`, Layout: true}},
		Sorts: []string{"S"},
		Prods: []api.Prod{{Label: "x", Right: []api.Sym{1, 0}}},
	}
	p := made(t, g)
	if r := p.Parse("if if"); !r.OK || !parse.Same(r.Trees[0], node(0, 0, 5, leaf(1, 0, 2), leaf(0, 3, 5))) {
		t.Error(r)
	}
	if r := p.Parse("ifx"); !r.OK {
		t.Error(r)
	}
}

func TestErrors(t *testing.T) {
	lr := grammar(prod(0, A, A), prod(0, a))
	form := grammar(prod(0, a))
	form.Terms[1].Regex = "("
	lex := grammar(prod(0, a), prod(0, b))
	lex.Terms[1].Regex = "a"
	many := grammar(prod(0, a))
	many.Terms[1].Regex = strings.Repeat("a", 201)
	for _, x := range []struct {
		g    api.Grammar
		want api.Errno
	}{{api.Grammar{}, api.ErrArg}, {lr, api.ErrLR}, {form, api.ErrForm}, {many, api.ErrMany}, {lex, api.ErrLex}} {
		if p, err := parse.New(x.g); p != nil || err != x.want {
			t.Error(err, x.want)
		}
	}
}

func words(most int) []string {
	l := []string{""}
	for from := 0; len(l[from]) < most; from++ {
		for _, b := range "abc" {
			l = append(l, l[from]+string(b))
		}
	}
	return l
}

func rowOf(text string) []int {
	var row []int
	for _, b := range strings.ReplaceAll(text, " ", "") {
		row = append(row, int(b-'a'))
	}
	return row
}

// spaced puts blanks into a text, and tells the place behind so many of its other bytes, with the blanks there.
func spaced(rnd *rand.Rand, text string) (string, []int) {
	out := ""
	var at []int
	for i := 0; i <= len(text); i++ {
		out += strings.Repeat(" ", max(0, rnd.Intn(5)-2))
		at = append(at, len(out))
		if i < len(text) {
			out += text[i : i+1]
		}
	}
	return out, at
}

func TestATextHasATreeJustWhereItIsDerived(t *testing.T) {
	rnd := rand.New(rand.NewSource(1))
	all := words(4)
	parsers := 0
	for range 1000 {
		var l []api.Prod
		for range 2 + rnd.Intn(6) {
			p := prod(rnd.Intn(3))
			for range rnd.Intn(4) {
				p.Right = append(p.Right, api.Sym(rnd.Intn(6)-3))
			}
			l = append(l, p)
		}
		g := grammar(l...)
		p, err := parse.New(g)
		if err != api.OK {
			continue
		}
		parsers++
		live := !slices.Contains(sets.Lives(g), false)
		for _, word := range all {
			text, at := spaced(rnd, word)
			r := p.Parse(text)
			row := rowOf(text)
			if ways := derive.Ways(g, row); r.OK != (ways == 1) || !r.OK && ways > 0 {
				t.Fatal(g, text, r)
			}
			checkTrees(t, g, text, r)
			if r.OK {
				if len(r.Trees) != 1 || r.At != len(text) || r.Want != 0 {
					t.Fatal(g, text, r)
				}
				continue
			}
			read := slices.Index(at, r.At)
			if read < 0 || live && (!derive.Begins(g, row[:read]) || read < len(row) && derive.Begins(g, row[:read+1])) {
				t.Fatal(g, text, r)
			}
		}
	}
	if parsers < 150 {
		t.Error(parsers)
	}
}

// checkTrees checks that trees are such of a grammar, and that their leaves, with blanks between, are a text, up to where it is wrong.
func checkTrees(t *testing.T, g api.Grammar, text string, r parse.Result) {
	t.Helper()
	at := 0
	for _, n := range r.Trees {
		if !parse.Valid(g, n) {
			t.Fatal(g, text, n)
		}
		for _, l := range parse.Leaves(n) {
			if strings.Trim(text[at:l.From], " ") != "" || text[l.From:l.To] != g.Terms[l.Term].Name {
				t.Fatal(g, text, n)
			}
			at = l.To
		}
	}
	if strings.Trim(text[at:r.At], " ") != "" || len(r.Trees) > 0 && r.OK && g.Prods[r.Trees[0].Prod].Sort != g.Start {
		t.Fatal(g, text, r)
	}
}

func TestLeaves(t *testing.T) {
	whole := api.Node{Prod: -1, Term: 7, Kids: []api.Node{leaf(1, 2, 3)}}
	n := node(0, 0, 9, leaf(1, 0, 1), node(-2, 0, 0, whole), node(1, 5, 5), leaf(0, 8, 9))
	got := parse.Leaves(n)
	if !slices.EqualFunc(got, []api.Node{leaf(1, 0, 1), whole, leaf(0, 8, 9)}, parse.Same) {
		t.Error(got)
	}
	got[1].Kids[0].Term = 99
	if whole.Kids[0].Term != 1 {
		t.Error("shared")
	}
	if l := parse.Leaves(leaf(3, 4, 5)); len(l) != 1 || !parse.Same(l[0], leaf(3, 4, 5)) {
		t.Error(l)
	}
	if len(parse.Leaves(api.Node{})) != 0 {
		t.Error("of none")
	}
}

func TestValid(t *testing.T) {
	g := grammar(prod(0, a, B, b), prod(1, c), prod(1))
	good := func() api.Node { return node(0, 1, 7, leaf(0, 1, 2), node(1, 3, 4, leaf(2, 3, 4)), leaf(1, 5, 7)) }
	if !parse.Valid(g, good()) || !parse.Valid(g, leaf(0, -5, -4)) || !parse.Valid(g, node(2, 4, 4)) || !parse.Valid(g, node(2, -4, -4)) {
		t.Error("good")
	}
	bad := g
	bad.Start = 9
	if parse.Valid(bad, good()) || parse.Valid(api.Grammar{}, leaf(0, 0, 1)) {
		t.Error("of no grammar")
	}
	if parse.Valid(g, leaf(4, 0, 1)) || parse.Valid(g, leaf(-1, 0, 1)) || !parse.Valid(g, leaf(3, 0, 1)) {
		t.Error("of no terminal")
	}
	for i, spoil := range []func(*api.Node){
		func(n *api.Node) { n.Prod = -2 },
		func(n *api.Node) { n.Prod = 3 },
		func(n *api.Node) { n.Prod = 1 },
		func(n *api.Node) { n.Prod = -1 },
		func(n *api.Node) { n.Term = 1 },
		func(n *api.Node) { n.From = 0 },
		func(n *api.Node) { n.To = 8 },
		func(n *api.Node) { n.Kids = n.Kids[:2] },
		func(n *api.Node) { n.Kids = append(n.Kids, leaf(1, 7, 8)) },
		func(n *api.Node) { n.Kids[0].Term = 1 },
		func(n *api.Node) { n.Kids[0].Term = 4 },
		func(n *api.Node) { n.Kids[0].Term = -1 },
		func(n *api.Node) { n.Kids[0].To = 1 },
		func(n *api.Node) { n.Kids[0].To = 4 },
		func(n *api.Node) { n.Kids[0].Kids = []api.Node{leaf(0, 1, 2)} },
		func(n *api.Node) { n.Kids[1] = leaf(2, 3, 4) },
		func(n *api.Node) { n.Kids[1].Kids[0].Term = 0 },
		func(n *api.Node) { n.Kids[1] = node(2, 3, 4) },
		func(n *api.Node) { n.Kids[2].From = 3 },
	} {
		n := good()
		if spoil(&n); parse.Valid(g, n) || parse.Same(n, good()) || parse.Same(good(), n) {
			t.Error(i)
		}
	}
	n := good()
	if n.Kids[1] = node(2, 2, 2); !parse.Valid(g, n) {
		t.Error("it may be empty, anywhere between")
	}
}

func TestSame(t *testing.T) {
	if !parse.Same(api.Node{Kids: []api.Node{}}, api.Node{}) || parse.Same(leaf(0, 0, 1), leaf(1, 0, 1)) || parse.Same(node(0, 0, 0), node(0, 0, 0, leaf(0, 0, 0))) {
		t.Error("same")
	}
}

func TestNothingIsShared(t *testing.T) {
	g := grammar(prod(0, a, A), prod(0))
	p := made(t, g)
	g.Prods[0].Right[0], g.Terms[0].Name = 2, "?"
	h := p.Grammar()
	if !inst.Same(h, grammar(prod(0, a, A), prod(0))) {
		t.Error(h)
	}
	h.Prods[0].Right[0], h.Terms[0].Name = 2, "?"
	if !inst.Same(p.Grammar(), grammar(prod(0, a, A), prod(0))) {
		t.Error("the grammar is shared")
	}
	r := p.Parse("aa")
	r.Trees[0].Kids[0].Term = 2
	if again := p.Parse("aa"); !again.OK || parse.Same(again.Trees[0], r.Trees[0]) {
		t.Error("trees are shared")
	}
}

func TestDeepTrees(t *testing.T) {
	text := strings.Repeat("a", 3000)
	p := made(t, grammar(prod(0, a, A), prod(0)))
	r := p.Parse(text)
	if !r.OK || len(parse.Leaves(r.Trees[0])) != 3000 || !parse.Valid(p.Grammar(), r.Trees[0]) || !parse.Same(r.Trees[0], p.Parse(text).Trees[0]) {
		t.Error(r.OK)
	}
	if r := p.Parse(text + "b"); r.OK || len(r.Trees) != 3000 || r.At != 3000 {
		t.Error(r.At)
	}
}
