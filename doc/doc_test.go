package doc_test

import (
	"math"
	"math/rand"
	"slices"
	"strings"
	"testing"

	"syntagm/api"
	"syntagm/doc"
	"syntagm/parse"
)

// made is a parser of S = x S, S = nothing, with blanks between.
func made(t *testing.T, x string) *parse.Parser {
	t.Helper()
	p, err := parse.New(api.Grammar{
		Terms: []api.Term{{Name: "space", Regex: " ", Layout: true}, {Name: "x", Regex: x}},
		Sorts: []string{"S"},
		Prods: []api.Prod{{Label: "a", Right: []api.Sym{1, -1}}, {Label: "b"}},
	})
	if err != api.OK {
		t.Fatal(err)
	}
	return p
}

func same(a, b parse.Result) bool {
	return a.OK == b.OK && a.At == b.At && a.Want == b.Want && slices.EqualFunc(a.Trees, b.Trees, parse.Same)
}

func TestPut(t *testing.T) {
	long := strings.Repeat("a", 20000)
	for i, x := range []struct {
		text     string
		from, to int
		s        string
		want     string
		err      api.Errno
	}{
		{"ab", 1, 2, "x", "ax", api.OK},
		{"ab", 0, 0, "x", "xab", api.OK},
		{"ab", 2, 2, "x", "abx", api.OK},
		{"ab", 0, 2, "", "", api.OK},
		{"", 0, 0, "", "", api.OK},
		{"ab", -1, 1, "x", "", api.ErrArg},
		{"ab", 1, 0, "x", "", api.ErrArg},
		{"ab", 1, 3, "x", "", api.ErrArg},
		{"ab", 3, 3, "x", "", api.ErrArg},
		{"ab", math.MinInt, math.MaxInt, "x", "", api.ErrArg},
		{"ab", math.MaxInt, math.MinInt, "x", "", api.ErrArg},
		{"ab", 3, 3, long, "", api.ErrArg},
		{"ab", 0, 2, long, long, api.OK},
		{"ab", 0, 1, long, "", api.ErrMany},
		{long, 5, 5, "a", "", api.ErrMany},
		{long, 5, 6, "a", long, api.OK},
		{long + "aa", 0, 1, "", "", api.ErrMany},
		{long + "aa", 0, 2, "", long, api.OK},
	} {
		if got, err := doc.Put(x.text, x.from, x.to, x.s); got != x.want || err != x.err {
			t.Error(i, err)
		}
	}
}

func TestDocument(t *testing.T) {
	p := made(t, "a")
	d := doc.New(p, "ab")
	if d.Text() != "ab" || d.Parser() != p || !same(d.Result(), p.Parse("ab")) {
		t.Error(d.Text())
	}
	if err := d.Edit(1, 2, " a"); err != api.OK || d.Text() != "a a" || !same(d.Result(), p.Parse("a a")) {
		t.Error(err, d.Text())
	}
	if err := d.Edit(1, 9, "x"); err != api.ErrArg || d.Text() != "a a" {
		t.Error(err, d.Text())
	}
	if err := d.Edit(0, 0, strings.Repeat("x", 20000)); err != api.ErrMany || d.Text() != "a a" || !same(d.Result(), p.Parse("a a")) {
		t.Error(err, d.Text())
	}
	q := made(t, "[ab]")
	if d.Use(q); d.Parser() != q || !same(d.Result(), q.Parse("a a")) || d.Text() != "a a" {
		t.Error(d.Result())
	}
}

func TestNoParser(t *testing.T) {
	d := doc.New(nil, "a")
	if d.Parser() != nil || !same(d.Result(), parse.Result{}) || d.Edit(0, 1, "b") != api.OK || d.Text() != "b" {
		t.Error(d.Text())
	}
	p := made(t, "b")
	if d.Use(p); !d.Result().OK {
		t.Error(d.Result())
	}
	if d.Use(nil); d.Parser() != nil || !same(d.Result(), parse.Result{}) {
		t.Error(d.Result())
	}
}

func TestAnswersShareNothing(t *testing.T) {
	d := doc.New(made(t, "a"), "aa")
	d.Result().Trees[0].Kids[0].Term = 99
	r := d.Result()
	r.Trees[0] = api.Node{}
	if !same(d.Result(), made(t, "a").Parse("aa")) {
		t.Error(d.Result())
	}
}

func TestAsIfItWereParsedAtOnce(t *testing.T) {
	rnd := rand.New(rand.NewSource(1))
	parsers := []*parse.Parser{made(t, "a"), made(t, "a|b"), made(t, "ab*"), nil}
	for range 50 {
		p := parsers[rnd.Intn(4)]
		text := "a b"
		d := doc.New(p, text)
		for range 60 {
			switch rnd.Intn(3) {
			case 0:
				from, to := rnd.Intn(len(text)+3)-1, rnd.Intn(len(text)+3)-1
				s := []string{"", "a", "b", " ", "ab"}[rnd.Intn(5)]
				want, err := doc.Put(text, from, to, s)
				if err == api.OK {
					text = want
				}
				if d.Edit(from, to, s) != err {
					t.Fatal(text, from, to)
				}
			case 1:
				p = parsers[rnd.Intn(4)]
				d.Use(p)
			}
			var want parse.Result
			if p != nil {
				want = p.Parse(text)
			}
			if d.Text() != text || d.Parser() != p || rnd.Intn(2) == 0 && !same(d.Result(), want) {
				t.Fatal(text, d.Result())
			}
		}
	}
}
