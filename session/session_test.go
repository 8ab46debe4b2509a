package session_test

import (
	"math"
	"math/rand"
	"reflect"
	"slices"
	"strconv"
	"strings"
	"testing"

	"syntagm/api"
	"syntagm/bits"
	"syntagm/elab"
	"syntagm/inst"
	"syntagm/module"
	"syntagm/parse"
	"syntagm/session"
	"syntagm/sets"
	"syntagm/spans"
)

func load(lines ...string) session.Op {
	return session.Op{Kind: session.Load, Text: strings.Join(lines, "\n")}
}

// does does operations of which none fails.
func does(t *testing.T, s *session.Session, l ...session.Op) {
	t.Helper()
	for _, o := range l {
		if a := s.Do(o); !reflect.DeepEqual(a, session.Answer{}) {
			t.Fatal(o, a)
		}
	}
}

func fails(t *testing.T, s *session.Session, o session.Op, err api.Errno) {
	t.Helper()
	if a := s.Do(o); a.Err != err || len(a.Trees)+len(a.Want)+len(a.Spans) > 0 || a.At != 0 {
		t.Error(o, a, "want", err)
	}
}

func leaf(term, from, to int) api.Node { return api.Node{Prod: -1, Term: term, From: from, To: to} }

func TestExample(t *testing.T) {
	s := session.New()
	does(t, s, load("module m", "term a /a/", "rule x S = a", "start S"), session.Op{Kind: session.Open, Name: "a", Root: "m", Text: "a"})
	a := s.Do(session.Op{Kind: session.Tree, Name: "a"})
	want := api.Node{To: 1, Kids: []api.Node{leaf(0, 0, 1)}}
	if a.Err != api.OK || len(a.Trees) != 1 || !parse.Same(a.Trees[0], want) || a.At != 0 || len(a.Want)+len(a.Spans) > 0 {
		t.Error(a)
	}
}

func TestKindsAreCounted(t *testing.T) {
	if session.Load != 0 || session.Unload != 1 || session.Open != 2 || session.Edit != 3 || session.Close != 4 || session.Tree != 5 || session.Spans != 6 {
		t.Error("kinds")
	}
	s := session.New()
	for _, k := range []session.Kind{-1, 7, math.MaxInt, math.MinInt} {
		fails(t, s, session.Op{Kind: k}, api.ErrArg)
	}
}

func TestModules(t *testing.T) {
	s := session.New()
	does(t, s, load("module b"), load("module a"), load("module b", "term a /a/"))
	if l := s.Modules(); !slices.Equal(l, []string{"a", "b"}) {
		t.Error(l)
	}
	if a := s.Do(load("module c", "foo")); a.Err != api.ErrForm || a.At != 9 {
		t.Error(a)
	}
	if a := s.Do(load("module c # " + strings.Repeat("x", 20000))); a.Err != api.ErrMany || a.At != 0 {
		t.Error(a)
	}
	if a := s.Do(load("module c", "term "+strings.Repeat("x", 33))); a.Err != api.ErrMany || a.At != 14 {
		t.Error(a)
	}
	fails(t, s, session.Op{Kind: session.Unload, Name: "c"}, api.ErrNone)
	does(t, s, session.Op{Kind: session.Unload, Name: "b"})
	fails(t, s, session.Op{Kind: session.Unload, Name: "b"}, api.ErrNone)
	if l := s.Modules(); !slices.Equal(l, []string{"a"}) {
		t.Error(l)
	}
	for i := range 59 {
		does(t, s, load("module n"+strconv.Itoa(i)))
	}
	fails(t, s, load("module more"), api.ErrMany)
	does(t, s, load("module a", "term a /a/"))
	if len(s.Modules()) != 60 {
		t.Error(s.Modules())
	}
}

func TestDocuments(t *testing.T) {
	s := session.New()
	does(t, s, session.Op{Kind: session.Open, Name: "b", Text: "xy"}, session.Op{Kind: session.Open, Name: ""})
	if l := s.Docs(); !slices.Equal(l, []string{"", "b"}) {
		t.Error(l)
	}
	fails(t, s, session.Op{Kind: session.Open, Name: "b"}, api.ErrExists)
	fails(t, s, session.Op{Kind: session.Open, Name: "b", Text: strings.Repeat("x", 20001)}, api.ErrExists)
	fails(t, s, session.Op{Kind: session.Open, Name: "c", Text: strings.Repeat("x", 20001)}, api.ErrMany)
	fails(t, s, session.Op{Kind: session.Edit, Name: "c"}, api.ErrNone)
	does(t, s, session.Op{Kind: session.Edit, Name: "b", From: 1, To: 2, Text: "zz"})
	fails(t, s, session.Op{Kind: session.Edit, Name: "b", From: 1, To: 9}, api.ErrArg)
	fails(t, s, session.Op{Kind: session.Edit, Name: "b", Text: strings.Repeat("x", 20000)}, api.ErrMany)
	if text, ok := s.Text("b"); text != "xzz" || !ok {
		t.Error(text, ok)
	}
	if text, ok := s.Text("c"); text != "" || ok {
		t.Error(text, ok)
	}
	for _, k := range []session.Kind{session.Close, session.Tree, session.Spans} {
		fails(t, s, session.Op{Kind: k, Name: "c"}, api.ErrNone)
	}
	does(t, s, session.Op{Kind: session.Close, Name: "b"})
	if _, ok := s.Text("b"); ok || len(s.Docs()) != 1 {
		t.Error("closed")
	}
	for i := range 59 {
		does(t, s, session.Op{Kind: session.Open, Name: strconv.Itoa(i), Text: strings.Repeat("x", 20000)})
	}
	fails(t, s, session.Op{Kind: session.Open, Name: "more"}, api.ErrMany)
	fails(t, s, session.Op{Kind: session.Open, Name: "0"}, api.ErrExists)
}

func TestTree(t *testing.T) {
	s := session.New()
	does(t, s, load("module m", "term a /a/", "term b /b/", "term ws / / layout", "rule x S = a S", "rule y S = b", "start S"), session.Op{Kind: session.Open, Name: "d", Root: "m", Text: "a a"})
	for _, x := range []struct {
		text string
		want session.Answer
	}{
		{"a a", session.Answer{Err: api.ErrSyntax, At: 3, Want: []string{"a", "b"}, Trees: []api.Node{leaf(0, 0, 1), leaf(0, 2, 3)}}},
		{"b b", session.Answer{Err: api.ErrSyntax, At: 2, Want: []string{""}, Trees: []api.Node{leaf(1, 0, 1)}}},
		{"", session.Answer{Err: api.ErrSyntax, At: 0, Want: []string{"a", "b"}}},
		{"ab", session.Answer{Trees: []api.Node{{Prod: 0, To: 2, Kids: []api.Node{leaf(0, 0, 1), {Prod: 1, From: 1, To: 2, Kids: []api.Node{leaf(1, 1, 2)}}}}}}},
	} {
		old, _ := s.Text("d")
		does(t, s, session.Op{Kind: session.Edit, Name: "d", To: len(old), Text: x.text})
		for range 2 {
			if a := s.Do(session.Op{Kind: session.Tree, Name: "d"}); !same(a, x.want) {
				t.Errorf("%q: %v", x.text, a)
			}
		}
	}
}

func same(a, b session.Answer) bool {
	return a.Err == b.Err && a.At == b.At && slices.Equal(a.Want, b.Want) && slices.EqualFunc(a.Trees, b.Trees, parse.Same) && slices.Equal(a.Spans, b.Spans)
}

func TestSpans(t *testing.T) {
	s := session.New()
	does(t, s, load("module m", "term a /a/", "term b /b/ class 7", "rule x S = a S ; 3", "rule y S = b", "start S"), session.Op{Kind: session.Open, Name: "d", Root: "m", Text: "ab"})
	if a := s.Do(session.Op{Kind: session.Spans, Name: "d"}); !same(a, session.Answer{Spans: []api.Span{{From: 0, To: 1, Class: 3}, {From: 1, To: 2, Class: 7}}}) {
		t.Error(a)
	}
	does(t, s, session.Op{Kind: session.Edit, Name: "d", From: 1, To: 2, Text: "x!"})
	if a := s.Do(session.Op{Kind: session.Spans, Name: "d"}); !same(a, session.Answer{Spans: []api.Span{{From: 0, To: 1}, {From: 1, To: 3, Class: -1}}}) {
		t.Error(a)
	}
}

func TestErrorsOfTheRoot(t *testing.T) {
	s := session.New()
	for _, lines := range [][]string{
		{"module cycle", "import cycle"},
		{"module noStart"},
		{"module absent", "remove x", "start S"},
		{"module clash", "term a /a/", "term a /b/", "start S"},
		{"module start", "start S"},
		{"module none", "rule x S = q", "start S"},
		{"module arity", "rule x S = S(S)", "start S"},
		{"module deep", "rule x S = L(S)", "rule l L(x) = L(L(x))", "start S"},
		{"module form", "term a /(/", "rule x S = a", "start S"},
		{"module lr", "term a /a/", "rule x S = S S", "rule y S = a", "start S"},
		{"module lex", "term a /a/", "term b /a/", "rule x S = a", "rule y S = b", "start S"},
	} {
		does(t, s, load(lines...))
	}
	for root, want := range map[string]api.Errno{
		"nowhere": api.ErrNone, "": api.ErrNone, "cycle": api.ErrCycle, "noStart": api.ErrStart, "absent": api.ErrAbsent, "clash": api.ErrClash, "start": api.ErrStart,
		"none": api.ErrNone, "arity": api.ErrArity, "deep": api.ErrDeep, "form": api.ErrForm, "lr": api.ErrLR, "lex": api.ErrLex,
	} {
		does(t, s, session.Op{Kind: session.Open, Name: root, Root: root, Text: "a"}, session.Op{Kind: session.Open, Name: root + "2", Root: root, Text: "a"})
		for _, name := range []string{root, root + "2", root} {
			fails(t, s, session.Op{Kind: session.Tree, Name: name}, want)
			fails(t, s, session.Op{Kind: session.Spans, Name: name}, want)
		}
	}
}

func TestModulesComeAndGo(t *testing.T) {
	s := session.New()
	tree := session.Op{Kind: session.Tree, Name: "d"}
	does(t, s, session.Op{Kind: session.Open, Name: "d", Root: "m", Text: "b"})
	fails(t, s, tree, api.ErrNone)
	does(t, s, load("module m", "import n", "start S"))
	fails(t, s, tree, api.ErrNone)
	does(t, s, load("module n", "term a /a/", "rule x S = a"))
	if a := s.Do(tree); a.Err != api.ErrSyntax || a.At != 0 || !slices.Equal(a.Want, []string{"a"}) {
		t.Error(a)
	}
	does(t, s, load("module n", "term b /b/", "rule x S = b"))
	if a := s.Do(tree); a.Err != api.OK || len(a.Trees) != 1 {
		t.Error(a)
	}
	does(t, s, load("module n", "term b /b/", "rule x S = b S"))
	if a := s.Do(tree); a.Err != api.ErrSyntax || a.At != 1 {
		t.Error(a)
	}
	does(t, s, session.Op{Kind: session.Unload, Name: "n"})
	fails(t, s, tree, api.ErrNone)
	// One that can't be read changes nothing.
	does(t, s, load("module n", "term b /b/", "rule x S = b"))
	if a := s.Do(load("module n", "foo")); a.Err != api.ErrForm {
		t.Error(a)
	}
	if a := s.Do(tree); a.Err != api.OK {
		t.Error(a)
	}
	// A document that is opened again has another root.
	does(t, s, session.Op{Kind: session.Close, Name: "d"}, session.Op{Kind: session.Open, Name: "d", Root: "n", Text: "b"})
	fails(t, s, tree, api.ErrStart)
}

// anew is what a session answers, of modules' and documents' texts alone.
type anew struct {
	mods map[string]string
	docs map[string][2]string
}

func (n anew) answer(name string, kind session.Kind) session.Answer {
	d, ok := n.docs[name]
	if !ok {
		return session.Answer{Err: api.ErrNone}
	}
	var mods []api.Module
	for _, text := range n.mods {
		m, _, _ := module.Parse(text)
		mods = append(mods, m)
	}
	x, start, err := elab.Elab(mods, d[0])
	if err != api.OK {
		return session.Answer{Err: err}
	}
	g, err := inst.Flat(x, start)
	if err != api.OK {
		return session.Answer{Err: err}
	}
	p, err := parse.New(g)
	if err != api.OK {
		return session.Answer{Err: err}
	}
	r := p.Parse(d[1])
	if kind == session.Spans {
		return session.Answer{Spans: spans.Of(g, r, len(d[1]))}
	}
	a := session.Answer{Trees: r.Trees}
	if !r.OK {
		a.Err, a.At = api.ErrSyntax, r.At
		for _, n := range bits.List(r.Want) {
			name := "" // of the end
			if n != sets.End {
				name = g.Terms[n].Name
			}
			a.Want = append(a.Want, name)
		}
	}
	return a
}

func TestEachAnswerIsAsIfAllWereMadeAnew(t *testing.T) {
	rnd := rand.New(rand.NewSource(1))
	lines := []string{"import m0", "import m1", "import m2 a = b b = a", "term a /a/", "term b /b/", "term b /[ab]+/ class 2", "term ws / / layout", "over a b", "rule x S = a S ; 4", "rule y S =", "rule z S = b", "rule z T = L(S)", "rule l L(p) = p", "change x = b S", "remove y", "start S", "start S"}
	s, n := session.New(), anew{map[string]string{}, map[string][2]string{}}
	counts := map[api.Errno]int{}
	often := []session.Kind{session.Load, session.Load, session.Load, session.Unload, session.Open, session.Open, session.Open, session.Edit, session.Edit, session.Edit, session.Edit, session.Close, session.Tree, session.Tree, session.Tree, session.Tree, session.Spans, session.Spans, session.Spans, session.Spans}
	for range 6000 {
		name, doc := "m"+strconv.Itoa(rnd.Intn(3)), "d"+strconv.Itoa(rnd.Intn(3))
		o := session.Op{Kind: often[rnd.Intn(len(often))], Name: doc, Root: name}
		switch o.Kind {
		case session.Load:
			o.Text = "module " + name
			if rnd.Intn(2) == 0 {
				o.Text += "\nterm a /a/\nrule x S = a S ; 4\nrule y S =\nstart S"
			}
			for _, line := range lines {
				if rnd.Intn(6) == 0 && (!strings.HasPrefix(line, "start") || !strings.Contains(o.Text, "start")) {
					o.Text += "\n" + line
				}
			}
			n.mods[name] = o.Text
		case session.Unload:
			o.Name = name
			delete(n.mods, name)
		case session.Open:
			o.Text = strings.Repeat("a b", rnd.Intn(3))
			if _, ok := n.docs[doc]; !ok {
				n.docs[doc] = [2]string{name, o.Text}
			}
		case session.Edit:
			old := n.docs[doc]
			o.From = rnd.Intn(len(old[1]) + 1)
			o.To, o.Text = min(len(old[1]), o.From+rnd.Intn(3)), []string{"", "a", "b", " ", "!"}[rnd.Intn(5)]
			if old[0] != "" {
				n.docs[doc] = [2]string{old[0], old[1][:o.From] + o.Text + old[1][o.To:]}
			}
		case session.Close:
			delete(n.docs, doc)
		}
		a := s.Do(o)
		if o.Kind >= session.Tree {
			counts[a.Err]++
			if want := n.answer(doc, o.Kind); !same(a, want) {
				t.Fatal(o, a, want, n)
			}
			// What is done with an answer is nothing to the session.
			for i := range a.Trees {
				a.Trees[i].Kids, a.Trees[i].From = nil, -9
			}
		}
		if len(s.Modules()) != len(n.mods) || len(s.Docs()) != len(n.docs) {
			t.Fatal(o, s.Modules(), s.Docs())
		}
		text, ok := s.Text(doc)
		if want, there := n.docs[doc]; text != want[1] || ok != there {
			t.Fatal(o, text)
		}
	}
	for _, err := range []api.Errno{api.OK, api.ErrNone, api.ErrCycle, api.ErrClash, api.ErrAbsent, api.ErrStart, api.ErrSyntax} {
		if counts[err] < 20 {
			t.Error(err, counts)
		}
	}
}

func TestTwoSessionsKnowNothingOfEachOther(t *testing.T) {
	a, b := session.New(), session.New()
	does(t, a, load("module m"), session.Op{Kind: session.Open, Name: "d"})
	if len(b.Modules())+len(b.Docs()) > 0 {
		t.Error(b.Modules(), b.Docs())
	}
	a.Modules()[0] = "?"
	if a.Modules()[0] != "m" {
		t.Error("shared")
	}
}

func TestWhatTheReadMeTells(t *testing.T) {
	s := session.New()
	does(t, s,
		session.Op{Kind: session.Load, Text: "module list\nterm a /a/\nterm ws /\\s+/ layout\nrule more S = a S ; 1\nrule none S =\nstart S"},
		session.Op{Kind: session.Open, Name: "doc", Root: "list", Text: "a a"})
	if a := s.Do(session.Op{Kind: session.Tree, Name: "doc"}); a.Err != api.OK || len(parse.Leaves(a.Trees[0])) != 2 {
		t.Error(a)
	}
	if a := s.Do(session.Op{Kind: session.Spans, Name: "doc"}); !slices.Equal(a.Spans, []api.Span{{From: 0, To: 1, Class: 1}, {From: 2, To: 3, Class: 1}}) {
		t.Error(a)
	}
	does(t, s, session.Op{Kind: session.Edit, Name: "doc", From: 3, To: 3, Text: " a"})
	if a := s.Do(session.Op{Kind: session.Tree, Name: "doc"}); a.Err != api.OK || len(parse.Leaves(a.Trees[0])) != 3 {
		t.Error(a)
	}
}
