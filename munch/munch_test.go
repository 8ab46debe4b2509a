package munch_test

import (
	"math"
	"math/rand"
	"slices"
	"strings"
	"testing"

	"syntagm/api"
	"syntagm/bits"
	"syntagm/dfa"
	"syntagm/munch"
	"syntagm/regex"
)

const every = api.Set(math.MaxUint64)

func built(t *testing.T, texts ...string) dfa.DFA {
	t.Helper()
	var l []api.Regex
	for _, text := range texts {
		r, err := regex.Parse(text)
		if err != api.OK {
			t.Fatal(text)
		}
		l = append(l, r)
	}
	d, err := dfa.Build(l)
	if err != api.OK {
		t.Fatal(err)
	}
	return d
}

func TestExample(t *testing.T) {
	d := built(t, "[a-z]+", "if")
	over := [][2]int{{1, 0}}
	for text, want := range map[string]int{"if": 1, "iff": 0, "i": 0} {
		if tag, to := munch.Pick(d, text, 0, every, over); tag != want || to != len(text) {
			t.Error(text, tag, to)
		}
	}
}

var lists = [][]string{{"[ab]+", "ab"}, {"a*b|a", "b*"}, {"a", "ab", "abc", "c"}, {"", "a*"}, {"(ab?)*"}, {"[]"}, {}}

func TestNoLongerPieceMayBe(t *testing.T) {
	rnd := rand.New(rand.NewSource(1))
	for range 3000 {
		d := built(t, lists[rnd.Intn(len(lists))]...)
		if rnd.Intn(9) == 0 {
			d.Tags = d.Tags[:rnd.Intn(len(d.Tags)+1)] // not valid
		}
		text := ""
		for range rnd.Intn(7) {
			text += string("abc"[rnd.Intn(3)])
		}
		at := rnd.Intn(len(text)+4) - 2
		may := api.Set(rnd.Intn(16))
		want := munch.Piece{To: at}
		for to := at + 1; at >= 0 && to <= len(text); to++ {
			if tags := dfa.Run(d, text[at:to]) & may; tags != 0 {
				want = munch.Piece{tags, to}
			}
		}
		if got := munch.Longest(d, text, at, may); got != want {
			t.Fatal(text, at, may, got, want)
		}
	}
}

func TestNoSuchPlace(t *testing.T) {
	d := built(t, "a*")
	for _, at := range []int{-1, 3, 4, math.MaxInt, math.MinInt} {
		if p := munch.Longest(d, "aaa", at, every); p != (munch.Piece{To: at}) {
			t.Error(at, p)
		}
		if tag, to := munch.Pick(d, "aaa", at, every, nil); tag != -1 || to != at {
			t.Error(at, tag, to)
		}
	}
	if p := munch.Longest(dfa.DFA{}, "a", 0, every); p != (munch.Piece{}) {
		t.Error(p)
	}
}

func TestWin(t *testing.T) {
	for _, x := range []struct {
		tags []int
		over [][2]int
		want []int
	}{
		{[]int{0, 1}, nil, []int{0, 1}},
		{[]int{0, 1}, [][2]int{{1, 0}}, []int{1}},
		{[]int{0, 1}, [][2]int{{1, 0}, {0, 1}}, nil},
		{[]int{0, 1}, [][2]int{{2, 0}}, []int{0, 1}},
		{[]int{0, 1}, [][2]int{{0, 0}, {1, 1}}, []int{0, 1}},
		{[]int{0, 1, 2}, [][2]int{{0, 1}, {1, 2}}, []int{0}},
		{[]int{0, 1, 2}, [][2]int{{0, 2}}, []int{0, 1}},
		{[]int{63, 1}, [][2]int{{63, 1}, {-1, 63}, {64, 63}, {1, 99}}, []int{63}},
		{nil, [][2]int{{0, 1}}, nil},
	} {
		if got := munch.Win(bits.Of(x.tags...), x.over); got != bits.Of(x.want...) {
			t.Error(x, bits.List(got))
		}
	}
}

func TestPick(t *testing.T) {
	d := built(t, "[ab]+", "ab", "ab|c")
	for _, x := range []struct {
		text    string
		at      int
		may     api.Set
		over    [][2]int
		tag, to int
	}{
		{"ab", 0, every, nil, -1, 2},
		{"ab", 0, bits.Of(1), nil, 1, 2},
		{"aba", 0, bits.Of(1, 2), nil, -1, 2},
		{"aba", 0, every, nil, 0, 3},
		{"ab", 0, every, [][2]int{{1, 0}}, -1, 2},
		{"ab", 0, every, [][2]int{{1, 0}, {1, 2}}, 1, 2},
		{"ab", 0, every, [][2]int{{1, 0}, {0, 2}, {2, 1}}, -1, 2},
		{"xc", 1, every, nil, 2, 2},
		{"xc", 0, every, nil, -1, 0},
		{"ab", 0, 0, nil, -1, 0},
	} {
		if tag, to := munch.Pick(d, x.text, x.at, x.may, x.over); tag != x.tag || to != x.to {
			t.Error(x, tag, to)
		}
	}
}

func TestAll(t *testing.T) {
	d := built(t, "[a-z]+", "if", " ", "[0-9]")
	over := [][2]int{{1, 0}}
	l, to := munch.All(d, "if iff7x!", every, over)
	want := []munch.Piece{{2, 2}, {4, 3}, {1, 6}, {8, 7}, {1, 8}}
	if !slices.Equal(l, want) || to != 8 {
		t.Error(l, to)
	}
	if l, to := munch.All(d, "", every, over); len(l) != 0 || to != 0 {
		t.Error(l, to)
	}
	// Two are left of if: it goes on no more where that begins.
	if l, to := munch.All(d, "a if", every, nil); len(l) != 2 || to != 2 {
		t.Error(l, to)
	}
}

func TestThePiecesAreTheText(t *testing.T) {
	rnd := rand.New(rand.NewSource(2))
	d := built(t, "a", "ab", "b+c")
	for range 500 {
		text := ""
		for range rnd.Intn(9) {
			text += string("abc"[rnd.Intn(3)])
		}
		l, end := munch.All(d, text, every, nil)
		at := 0
		for _, p := range l {
			if p.To <= at || bits.Count(p.Tags) != 1 || p.Tags != munch.Longest(d, text, at, every).Tags {
				t.Fatal(text, l)
			}
			at = p.To
		}
		if at != end {
			t.Fatal(text, l, end)
		}
		if tag, _ := munch.Pick(d, text, end, every, nil); tag != -1 {
			t.Fatal(text, "goes on")
		}
	}
}

func TestArgumentsAreLeft(t *testing.T) {
	d := built(t, "a", "b")
	over := [][2]int{{0, 1}}
	munch.All(d, strings.Repeat("ab", 50), every, over)
	if !slices.Equal(over, [][2]int{{0, 1}}) || dfa.Run(d, "a") != 1 {
		t.Error("changed")
	}
}
