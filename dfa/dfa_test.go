package dfa_test

import (
	"math"
	"reflect"
	"slices"
	"strings"
	"testing"

	"syntagm/api"
	"syntagm/bits"
	"syntagm/dfa"
	"syntagm/nfa"
	"syntagm/regex"
)

func all(t *testing.T, texts ...string) []api.Regex {
	t.Helper()
	var l []api.Regex
	for _, text := range texts {
		r, err := regex.Parse(text)
		if err != api.OK {
			t.Fatal(text, err)
		}
		l = append(l, r)
	}
	return l
}

func built(t *testing.T, texts ...string) dfa.DFA {
	t.Helper()
	d, err := dfa.Build(all(t, texts...))
	if err != api.OK {
		t.Fatal(texts, err)
	}
	return d
}

func words(most int) []string {
	l := []string{""}
	for from := 0; len(l[from]) < most; from++ {
		for _, b := range "abc" {
			l = append(l, l[from]+string(b))
		}
	}
	return l
}

var sets = [][]string{
	{}, {""}, {"[]"}, {"a*", "ab"}, {"(a|b)*c", "a", "b?", "[^a]", "."}, {"(a*)*", "(ab|a)(bc|c)?", "((a|b|)c)*"}, {"a+b+|c", "()", "(|a)(|b)"}, {`[\x80-\xff]`},
}

func TestItAcceptsJustWhatTheRegexesMatch(t *testing.T) {
	for _, texts := range sets {
		l := all(t, texts...)
		d := built(t, texts...)
		m, _ := nfa.Build(l)
		if !dfa.Valid(d) || d.Class != dfa.Classes(l) {
			t.Error(texts)
		}
		for _, s := range append(words(5), "\x80", "\xff\x00", "ab\n") {
			var want api.Set
			for i, r := range l {
				if regex.Match(r, s) {
					want = bits.With(want, i)
				}
			}
			if got := dfa.Run(d, s); got != want || m.Run(s) != want {
				t.Errorf("%q: %q: %b, want %b", texts, s, got, want)
			}
		}
	}
}

// together tells whether each RegexBytes has both bytes, or none of them.
func together(l []api.Regex, a, b byte) bool {
	for _, r := range l {
		if regex.Has(r, a) != regex.Has(r, b) || !together(r.Kids, a, b) {
			return false
		}
	}
	return true
}

func TestClasses(t *testing.T) {
	byHand := []api.Regex{{Kind: 9, Kids: all(t, "x")}, {Kind: api.RegexStar, Kids: all(t, "a", "b")}}
	lists := [][]api.Regex{byHand, nil}
	for _, texts := range sets {
		lists = append(lists, all(t, texts...))
	}
	for _, l := range lists {
		class := dfa.Classes(l)
		next := 0
		for a := range 256 {
			if class[a] > next {
				t.Fatal("not numbered by first bytes", class)
			}
			if class[a] == next {
				next++
			}
			for b := range 256 {
				if (class[a] == class[b]) != together(l, byte(a), byte(b)) {
					t.Fatal(a, b, class)
				}
			}
		}
	}
	class := dfa.Classes(all(t, "ab"))
	if class['a'] != 1 || class['b'] != 2 || class[0] != 0 || class[255] != 0 {
		t.Error(class)
	}
}

func TestTooManyStates(t *testing.T) {
	for n, want := range map[int]api.Errno{5: api.OK, 7: api.OK, 11: api.ErrMany, 15: api.ErrMany} {
		d, err := dfa.Build(all(t, "(a|b)*a"+strings.Repeat("(a|b)", n)))
		if err != want || err != api.OK && !reflect.DeepEqual(d, dfa.DFA{}) {
			t.Error(n, err)
		}
	}
	if d, err := dfa.Build(make([]api.Regex, 61)); err != api.ErrMany || !reflect.DeepEqual(d, dfa.DFA{}) {
		t.Error(err)
	}
	if _, err := dfa.Build([]api.Regex{{Kids: make([]api.Regex, 3000)}}); err != api.ErrMany {
		t.Error(err)
	}
}

func TestJustSoManyStates(t *testing.T) {
	row := api.Regex{Kind: api.RegexCat, Kids: slices.Repeat(all(t, "a"), 1999)}
	if d, err := dfa.Build([]api.Regex{row}); err != api.OK || len(d.Next) != 2000 {
		t.Error(err, len(d.Next))
	}
	row.Kids = append(row.Kids, row.Kids[0])
	if _, err := dfa.Build([]api.Regex{row}); err != api.ErrMany {
		t.Error(err)
	}
}

func TestValid(t *testing.T) {
	good := func() dfa.DFA {
		d := dfa.DFA{Next: [][]int{{1, -1}, {-1, 0}}, Tags: []api.Set{0, 1}}
		d.Class['a'] = 1
		return d
	}
	if !dfa.Valid(good()) {
		t.Error("good")
	}
	for i, spoil := range []func(*dfa.DFA){
		func(d *dfa.DFA) { d.Next, d.Tags = nil, nil },
		func(d *dfa.DFA) { d.Tags = d.Tags[:1] },
		func(d *dfa.DFA) { d.Tags = append(d.Tags, 0) },
		func(d *dfa.DFA) { d.Next[1] = []int{-1} },
		func(d *dfa.DFA) { d.Next[0] = []int{-1, -1, -1} },
		func(d *dfa.DFA) { d.Next[0], d.Next[1] = nil, nil },
		func(d *dfa.DFA) { d.Class[255] = 2 },
		func(d *dfa.DFA) { d.Class[0] = -1 },
		func(d *dfa.DFA) { d.Next[1][0] = 2 },
		func(d *dfa.DFA) { d.Next[1][0] = -2 },
	} {
		d := good()
		if spoil(&d); dfa.Valid(d) {
			t.Error(i)
		}
	}
	d := good()
	if d.Next[0], d.Next[1] = []int{1, 1, 1}, []int{0, 0, 0}; !dfa.Valid(d) {
		t.Error("a class of no byte may be")
	}
}

func TestGo(t *testing.T) {
	d := dfa.DFA{Next: [][]int{{1, -1}, {-5, 2}, {0, 2}}, Tags: []api.Set{1, 2}}
	d.Class['a'], d.Class['b'], d.Class['c'], d.Class['d'] = 1, 7, -1, 2
	for _, x := range []struct {
		at   int
		b    byte
		want int
	}{{0, 'x', 1}, {0, 'a', -1}, {0, 'b', -1}, {0, 'c', -1}, {1, 'x', -1}, {0, 'd', -1}, {1, 'a', 2}, {2, 'x', 0}, {2, 'a', 2}, {-1, 'x', -1}, {3, 'x', -1}, {math.MaxInt, 'x', -1}, {math.MinInt, 'x', -1}} {
		if got := dfa.Go(d, x.at, x.b); got != x.want {
			t.Error(x, got)
		}
	}
	d.Next = d.Next[:2]
	if got := dfa.Go(d, 1, 'a'); got != -1 {
		t.Error("a state beyond the states", got)
	}
	if dfa.Run(d, "x") != 2 || dfa.Run(d, "a") != 0 || dfa.Run(d, "xx") != 0 || dfa.Run(d, "") != 1 {
		t.Error("Run")
	}
	if dfa.Run(dfa.DFA{}, "") != 0 || dfa.Run(dfa.DFA{}, "a") != 0 || dfa.Run(dfa.DFA{Next: [][]int{{0}}}, "a") != 0 {
		t.Error("of what is not valid")
	}
}

func TestNothingIsShared(t *testing.T) {
	l := all(t, "a(b|c)")
	d, _ := dfa.Build(l)
	again, _ := dfa.Build(l)
	for _, row := range d.Next {
		for i := range row {
			row[i] = -1
		}
		_ = append(row, 9)
	}
	if dfa.Run(again, "ab") != 1 || !slices.Equal(again.Tags, d.Tags) {
		t.Error("shared")
	}
}
