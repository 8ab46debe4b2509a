package mini_test

import (
	"math/rand"
	"reflect"
	"slices"
	"strings"
	"testing"

	"syntagm/api"
	"syntagm/dfa"
	"syntagm/mini"
	"syntagm/regex"
)

// some is a DFA of a few states, of classes of which one may have no byte.
func some(rnd *rand.Rand) dfa.DFA {
	var d dfa.DFA
	states, classes := 1+rnd.Intn(7), 1+rnd.Intn(3)
	for b := range d.Class {
		d.Class[b] = rnd.Intn(classes)
	}
	if classes == 3 && rnd.Intn(2) == 0 {
		for b := range d.Class {
			d.Class[b] %= 2
		}
	}
	for range states {
		var row []int
		for range classes {
			row = append(row, rnd.Intn(states+2)-2)
		}
		for i := range row {
			row[i] = max(row[i], -1)
		}
		d.Next = append(d.Next, row)
		d.Tags = append(d.Tags, api.Set([]int{0, 0, 0, 1, 2, 3}[rnd.Intn(6)]))
	}
	return d
}

func alive(d dfa.DFA, at int, steps int) bool {
	if at < 0 || steps < 0 {
		return false
	}
	if d.Tags[at] != 0 {
		return true
	}
	for _, n := range d.Next[at] {
		if alive(d, n, steps-1) {
			return true
		}
	}
	return false
}

func same(a, b dfa.DFA, p, q int, seen map[[2]int]bool) bool {
	at := [2]int{p, q}
	if seen[at] {
		return true
	}
	seen[at] = true
	var x, y api.Set
	if p >= 0 {
		x = a.Tags[p]
	}
	if q >= 0 {
		y = b.Tags[q]
	}
	if x != y {
		return false
	}
	if p < 0 && q < 0 {
		return true
	}
	classes := len(a.Next[0])
	for c := range classes {
		n, m := -1, -1
		if p >= 0 {
			n = a.Next[p][c]
		}
		if q >= 0 {
			m = b.Next[q][c]
		}
		if !same(a, b, n, m, seen) {
			return false
		}
	}
	return true
}

func TestLeast(t *testing.T) {
	rnd := rand.New(rand.NewSource(1))
	for range 3000 {
		d := some(rnd)
		before := clone(d)
		l, err := mini.Least(d)
		if err != api.OK || !dfa.Valid(l) || l.Class != d.Class || len(l.Next[0]) != len(d.Next[0]) {
			t.Fatal(d, l, err)
		}
		if !reflect.DeepEqual(d, before) {
			t.Fatal("the argument is changed")
		}
		if !same(d, l, 0, 0, map[[2]int]bool{}) {
			t.Fatal("not the same", d, l)
		}
		for at := range l.Next {
			if at > 0 && !mini.Live(l, at) {
				t.Fatal("not live", l, at)
			}
			for other := range at {
				if same(l, l, at, other, map[[2]int]bool{}) {
					t.Fatal("not the least", d, l)
				}
			}
		}
		next := 1
		for _, row := range l.Next {
			for _, n := range row {
				if n > next {
					t.Fatal("not numbered as they are come to", l)
				}
				if n == next {
					next++
				}
			}
		}
		if next != len(l.Next) {
			t.Fatal("a state that is not come to", l)
		}
		if again, _ := mini.Least(l); !mini.Same(again, l) {
			t.Fatal("the least one has a lesser one", l, again)
		}
	}
}

func clone(d dfa.DFA) dfa.DFA {
	d.Tags = slices.Clone(d.Tags)
	d.Next = slices.Clone(d.Next)
	for i := range d.Next {
		d.Next[i] = slices.Clone(d.Next[i])
	}
	return d
}

func TestLive(t *testing.T) {
	rnd := rand.New(rand.NewSource(2))
	for range 1000 {
		d := some(rnd)
		for at := -2; at < len(d.Next)+2; at++ {
			want := at >= 0 && at < len(d.Next) && alive(d, at, len(d.Next))
			if mini.Live(d, at) != want {
				t.Fatal(d, at)
			}
		}
		d.Class[3] = 9
		if mini.Live(d, 0) {
			t.Fatal("of what is not valid")
		}
	}
}

func TestNothingIsAccepted(t *testing.T) {
	d := dfa.DFA{Next: [][]int{{1, 0}, {0, 1}}, Tags: []api.Set{0, 0}}
	l, err := mini.Least(d)
	if err != api.OK || !mini.Same(l, dfa.DFA{Next: [][]int{{-1, -1}}, Tags: []api.Set{0}}) {
		t.Error(l, err)
	}
}

func TestNotValid(t *testing.T) {
	for _, d := range []dfa.DFA{{}, {Next: [][]int{{1}}, Tags: []api.Set{0}}, {Next: [][]int{{0}}}} {
		if l, err := mini.Least(d); err != api.ErrArg || !reflect.DeepEqual(l, dfa.DFA{}) {
			t.Error(l, err)
		}
	}
}

func TestSame(t *testing.T) {
	good := func() dfa.DFA { return dfa.DFA{Next: [][]int{{1, -1}, {-1, 0}}, Tags: []api.Set{0, 1}} }
	if !mini.Same(good(), good()) || !mini.Same(dfa.DFA{}, dfa.DFA{Next: [][]int{}, Tags: []api.Set{}}) {
		t.Error("alike")
	}
	for i, spoil := range []func(*dfa.DFA){
		func(d *dfa.DFA) { d.Class[255] = 1 },
		func(d *dfa.DFA) { d.Next[1][1] = 1 },
		func(d *dfa.DFA) { d.Next[1] = d.Next[1][:1] },
		func(d *dfa.DFA) { d.Next = d.Next[:1] },
		func(d *dfa.DFA) { d.Tags[0] = 2 },
		func(d *dfa.DFA) { d.Tags = d.Tags[:1] },
	} {
		d := good()
		if spoil(&d); mini.Same(d, good()) || mini.Same(good(), d) {
			t.Error(i)
		}
	}
}

func least(t *testing.T, texts ...string) dfa.DFA {
	t.Helper()
	d, err := mini.Of(texts)
	if err != api.OK {
		t.Fatal(texts, err)
	}
	return d
}

func TestTwoRegexesThatMatchTheSame(t *testing.T) {
	for _, x := range [][2]string{{"a|b", "[a]|[b]"}, {"(a|b)*", "(a*b*)*"}, {"a*", "(a*)*"}, {"aa*", "a+"}, {"a(b|c)", "ab|ac"}, {"a?b?", "|a|b|ab"}, {"(ab)*a", "a(ba)*"}, {"", "()*"}, {"[]", "[]a*[]"}} {
		a, b := least(t, x[0]), least(t, x[1])
		if a.Class == b.Class && !mini.Same(a, b) {
			t.Errorf("%q: %v, %v", x, a.Next, b.Next)
		}
	}
	if a, b := least(t, "a|b"), least(t, "[a]|[b]"); !mini.Same(a, b) || len(a.Next) != 2 {
		t.Error("a|b")
	}
	if d := least(t, "ab", "a*"); len(d.Next) != 4 {
		t.Error(d.Next)
	}
}

func TestOf(t *testing.T) {
	l := []string{"if", "[a-z]+", "[a-z0-9]*[0-9]"}
	d := least(t, l...)
	for _, s := range []string{"", "i", "if", "iff", "a1", "1", "1a", "if0"} {
		var want api.Set
		for i, text := range l {
			r, _ := regex.Parse(text)
			if regex.Match(r, s) {
				want |= 1 << i
			}
		}
		if dfa.Run(d, s) != want {
			t.Error(s, dfa.Run(d, s))
		}
	}
	if d := least(t); len(d.Next) != 1 || dfa.Run(d, "") != 0 {
		t.Error("of nothing")
	}
}

func TestOfFails(t *testing.T) {
	long := strings.Repeat("a", 201)
	for _, x := range []struct {
		l    []string
		want api.Errno
	}{
		{[]string{"a", "(", long}, api.ErrForm},
		{[]string{"a", long, "("}, api.ErrMany},
		{make([]string, 61), api.ErrMany},
		{append(make([]string, 61), "("), api.ErrForm},
		{[]string{"(a|b)*a" + strings.Repeat("(a|b)", 15)}, api.ErrMany},
	} {
		if d, err := mini.Of(x.l); err != x.want || !reflect.DeepEqual(d, dfa.DFA{}) {
			t.Error(x.l, err)
		}
	}
}

func TestAHandMadeChain(t *testing.T) {
	var d dfa.DFA
	for at := range 1500 {
		d.Next = append(d.Next, []int{min(at+1, 1499)})
		d.Tags = append(d.Tags, api.Set(at/1499))
	}
	if l, _ := mini.Least(d); len(l.Next) != 1500 {
		t.Error(len(l.Next))
	}
}
