package nfa_test

import (
	"math"
	"math/rand"
	"slices"
	"strings"
	"testing"

	"syntagm/api"
	"syntagm/bits"
	"syntagm/nfa"
	"syntagm/regex"
)

func all(t *testing.T, texts ...string) []api.Regex {
	t.Helper()
	var l []api.Regex
	for _, text := range texts {
		r, err := regex.Parse(text)
		if err != api.OK {
			t.Fatal(text, err)
		}
		l = append(l, r)
	}
	return l
}

func built(t *testing.T, l []api.Regex) *nfa.Machine {
	t.Helper()
	m, err := nfa.Build(l)
	if err != api.OK || m == nil {
		t.Fatal(err)
	}
	return m
}

func words(most int) []string {
	l := []string{""}
	for from := 0; len(l[from]) < most; from++ {
		for _, b := range "abc" {
			l = append(l, l[from]+string(b))
		}
	}
	return l
}

func matched(l []api.Regex, s string) api.Set {
	var tags api.Set
	for i, r := range l {
		if regex.Match(r, s) {
			tags = bits.With(tags, i)
		}
	}
	return tags
}

var sets = [][]string{
	{}, {""}, {"[]"}, {"a*", "ab"}, {"(a|b)*c", "a", "b?", "[^a]", "."}, {"(a*)*", "(ab|a)(bc|c)?", "((a|b|)c)*"}, {"a+b+|c", "()", "(|a)(|b)"},
}

func TestExample(t *testing.T) {
	m := built(t, all(t, "a*", "ab"))
	if m.Run("a") != bits.Of(0) || m.Run("ab") != bits.Of(1) || m.Run("b") != 0 || m.Run("") != bits.Of(0) {
		t.Error("a*, ab")
	}
}

func TestItAcceptsJustWhatTheRegexesMatch(t *testing.T) {
	for _, texts := range sets {
		l := all(t, texts...)
		m := built(t, l)
		for _, s := range words(5) {
			if got, want := m.Run(s), matched(l, s); got != want {
				t.Errorf("%q: %q: %b, want %b", texts, s, got, want)
			}
			at := m.Begin()
			for i := range len(s) {
				at = m.Step(at, s[i])
			}
			if m.Tags(at) != m.Run(s) {
				t.Errorf("%q: %q: Step", texts, s)
			}
		}
	}
}

func TestRegexesByHand(t *testing.T) {
	a := all(t, "a")[0]
	l := []api.Regex{
		{Kind: api.RegexStar},
		{Kind: api.RegexStar, Kids: []api.Regex{a, {}}},
		{Kind: api.RegexAlt},
		{Kind: api.RegexCat},
		{Kind: 9, Bytes: a.Bytes, Kids: []api.Regex{a}},
		{Kind: -1},
		{Kind: api.RegexBytes, Bytes: a.Bytes, Kids: []api.Regex{a}},
		{Kind: api.RegexEmpty, Kids: []api.Regex{a}},
	}
	m := built(t, l)
	for _, s := range words(3) {
		if m.Run(s) != matched(l, s) {
			t.Errorf("%q: %b", s, m.Run(s))
		}
	}
}

func TestSetsOfStates(t *testing.T) {
	rnd := rand.New(rand.NewSource(1))
	for _, texts := range sets {
		m := built(t, all(t, texts...))
		for range 300 {
			var at []int
			for range rnd.Intn(8) {
				at = append(at, rnd.Intn(30)-5)
			}
			b := "abc"[rnd.Intn(3)]
			before := slices.Clone(at)
			got := m.Step(at, b)
			for i := 1; i < len(got); i++ {
				if got[i] <= got[i-1] {
					t.Fatal(got)
				}
			}
			if twice := m.Step(append(at, at...), b); !slices.Equal(got, twice) {
				t.Fatal("one that comes twice counts once")
			}
			var each []int
			var tags api.Set
			for _, n := range at {
				each = append(each, m.Step([]int{n}, b)...)
				tags |= m.Tags([]int{n})
			}
			slices.Sort(each)
			if each = slices.Compact(each); !slices.Equal(each, got) || tags != m.Tags(at) {
				t.Fatal("a set is its states")
			}
			if !slices.Equal(at, before) {
				t.Fatal("the argument is changed")
			}
		}
	}
}

func TestStatesThatThereAreNot(t *testing.T) {
	m := built(t, all(t, "a*"))
	none := []int{-1, 1 << 40, math.MinInt, math.MaxInt}
	if len(m.Step(none, 'a')) != 0 || m.Tags(none) != 0 || len(m.Step(nil, 'a')) != 0 || m.Tags(nil) != 0 {
		t.Error("none")
	}
	m.Begin()[0] = 99
	if m.Run("aa") != 1 {
		t.Error("what Begin tells is shared")
	}
}

func TestSize(t *testing.T) {
	for text, want := range map[string]int{"": 1, "a": 1, "ab": 3, "a+": 4, "a?b*|c": 8} {
		if got := nfa.Size(all(t, text)[0]); got != want {
			t.Errorf("Size(%q) = %d, want %d", text, got, want)
		}
	}
	if nfa.Size(api.Regex{Kind: 9, Kids: make([]api.Regex, 3)}) != 4 {
		t.Error("kids of any kind count")
	}
}

func TestTooMany(t *testing.T) {
	l := make([]api.Regex, 60)
	built(t, l)
	if m, err := nfa.Build(make([]api.Regex, 61)); m != nil || err != api.ErrMany {
		t.Error("61 regexes")
	}
	l[0].Kids = make([]api.Regex, 2940)
	built(t, l)
	l[59].Kids = make([]api.Regex, 1)
	if m, err := nfa.Build(l); m != nil || err != api.ErrMany {
		t.Error("a size of 3001")
	}
}

func TestNothingOfTheArgumentIsKept(t *testing.T) {
	l := all(t, "ab")
	m := built(t, l)
	l[0].Kids[0] = l[0].Kids[1]
	if m.Run("ab") != 1 || m.Run("bb") != 0 {
		t.Error("kept")
	}
}

func TestManyRegexesAtOnce(t *testing.T) {
	var texts []string
	for i := range 60 {
		texts = append(texts, "a*"+strings.Repeat("b", i%7))
	}
	l := all(t, texts...)
	m := built(t, l)
	for _, s := range []string{"", "aaab", "bbbbbb", "abbbbbbb", "aa"} {
		if m.Run(s) != matched(l, s) {
			t.Error(s)
		}
	}
}
