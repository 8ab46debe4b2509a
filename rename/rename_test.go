package rename_test

import (
	"math/rand"
	"reflect"
	"slices"
	"testing"

	"syntagm/api"
	"syntagm/rename"
)

func sym(of string, arg ...api.Name) api.Name { return api.Name{Of: of, Arg: arg} }

func rule(label, sort string, right ...string) api.Rule {
	r := api.Rule{Label: label, Sort: sym(sort)}
	for _, s := range right {
		r.Right = append(r.Right, sym(s))
	}
	return r
}

func items() rename.Items {
	return rename.Items{
		Terms: []api.Term{{Name: "b", Regex: "b"}, {Name: "a", Regex: "a", Class: 2}, {Name: "b", Regex: "b"}},
		Over:  [][2]string{{"b", "a"}, {"a", "b"}, {"a", "a"}, {"b", "a"}},
		Rules: []api.Rule{rule("y", "S", "a"), {Label: "x", Sort: sym("L", sym("p")), Right: []api.Name{sym("L", sym("M", sym("q")))}, Class: 4}, rule("y", "S", "a")},
	}
}

func normed() rename.Items {
	x := items()
	return rename.Items{
		Terms: []api.Term{x.Terms[1], x.Terms[0]},
		Over:  [][2]string{{"a", "a"}, {"a", "b"}, {"b", "a"}},
		Rules: []api.Rule{x.Rules[1], x.Rules[0]},
	}
}

func TestNorm(t *testing.T) {
	x := items()
	got, err := rename.Norm(x)
	if err != api.OK || !rename.Same(got, normed()) {
		t.Error(got, err)
	}
	if !reflect.DeepEqual(x, items()) {
		t.Error("the argument is changed")
	}
	if got, err := rename.Norm(rename.Items{}); err != api.OK || !rename.Same(got, rename.Items{}) {
		t.Error(got, err)
	}
}

func TestNormFails(t *testing.T) {
	for i, spoil := range []func(*rename.Items){
		func(x *rename.Items) { x.Terms[2].Regex = "c" },
		func(x *rename.Items) { x.Terms[2].Layout = true },
		func(x *rename.Items) { x.Terms[2].Class = 1 },
		func(x *rename.Items) { x.Rules[2].Class = 1 },
		func(x *rename.Items) { x.Rules[2].Sort.Of = "T" },
		func(x *rename.Items) { x.Rules[2].Right[0].Of = "b" },
		func(x *rename.Items) { x.Rules[2].Right = nil },
		func(x *rename.Items) { x.Rules[2].Right[0].Arg = []api.Name{sym("b")} },
	} {
		x := items()
		spoil(&x)
		for _, f := range []func() (rename.Items, api.Errno){
			func() (rename.Items, api.Errno) { return rename.Norm(x) },
			func() (rename.Items, api.Errno) { return rename.Union(x, rename.Items{}) },
			func() (rename.Items, api.Errno) { return rename.Union(items(), x) },
			func() (rename.Items, api.Errno) { return rename.Rename(x, nil) },
			func() (rename.Items, api.Errno) { return rename.Change(x, []api.Change{{Label: "none"}}) },
		} {
			if got, err := f(); err != api.ErrClash || !reflect.DeepEqual(got, rename.Items{}) {
				t.Error(i, got, err)
			}
		}
	}
}

// some is a part of what is declared.
func some(rnd *rand.Rand) rename.Items {
	x := normed()
	x.Rules = append(x.Rules, rule("z", "S"), rule("zz", "T", "b", "S"))
	keep := func() bool { return rnd.Intn(2) == 0 }
	x.Terms = slices.DeleteFunc(x.Terms, func(api.Term) bool { return keep() })
	x.Over = slices.DeleteFunc(x.Over, func([2]string) bool { return keep() })
	x.Rules = slices.DeleteFunc(x.Rules, func(api.Rule) bool { return keep() })
	return x
}

func TestInWhateverOrder(t *testing.T) {
	rnd := rand.New(rand.NewSource(1))
	for range 1000 {
		a, b, c := some(rnd), some(rnd), some(rnd)
		ab, _ := rename.Union(a, b)
		ba, _ := rename.Union(b, a)
		bc, _ := rename.Union(b, c)
		left, _ := rename.Union(ab, c)
		right, err := rename.Union(a, bc)
		if err != api.OK || !rename.Same(ab, ba) || !rename.Same(left, right) {
			t.Fatal(a, b, c)
		}
		if aa, _ := rename.Union(a, a); !rename.Same(aa, a) {
			t.Fatal(a, aa)
		}
		rnd.Shuffle(len(left.Rules), func(i, j int) { left.Rules[i], left.Rules[j] = left.Rules[j], left.Rules[i] })
		slices.Reverse(left.Terms)
		slices.Reverse(left.Over)
		if again, _ := rename.Norm(left); !rename.Same(again, right) {
			t.Fatal(again, right)
		}
	}
}

func TestNames(t *testing.T) {
	if got := rename.Names(items()); !slices.Equal(got, []string{"L", "M", "S", "a", "b", "p", "q", "x", "y"}) {
		t.Error(got)
	}
	if got := rename.Names(rename.Items{Over: [][2]string{{"v", "u"}}}); !slices.Equal(got, []string{"u", "v"}) {
		t.Error(got)
	}
	if len(rename.Names(rename.Items{})) != 0 {
		t.Error("of nothing")
	}
}

func TestRename(t *testing.T) {
	x := items()
	got, err := rename.Rename(x, [][2]string{{"a", "b"}, {"b", "a"}, {"q", "r"}, {"x", "z"}, {"L", "K"}})
	want := rename.Items{
		Terms: []api.Term{{Name: "a", Regex: "b"}, {Name: "b", Regex: "a", Class: 2}},
		Over:  [][2]string{{"a", "b"}, {"b", "a"}, {"b", "b"}},
		Rules: []api.Rule{rule("y", "S", "b"), {Label: "z", Sort: sym("K", sym("p")), Right: []api.Name{sym("K", sym("M", sym("r")))}, Class: 4}},
	}
	if err != api.OK || !rename.Same(got, want) {
		t.Error(got, err)
	}
	if !reflect.DeepEqual(x, items()) {
		t.Error("the argument is changed")
	}
	if got, err := rename.Rename(x, nil); err != api.OK || !rename.Same(got, normed()) {
		t.Error(got, err)
	}
	if got, err := rename.Rename(rename.Items{Terms: []api.Term{{Name: "a"}}}, [][2]string{{"a", "b"}}); err != api.OK || got.Terms[0].Name != "b" {
		t.Error(got, err)
	}
	if got, err := rename.Rename(x, [][2]string{{"a", "a"}}); err != api.OK || !rename.Same(got, normed()) {
		t.Error(got, err)
	}
}

func TestRenameFails(t *testing.T) {
	for _, x := range []struct {
		names [][2]string
		want  api.Errno
	}{
		{[][2]string{{"a", "c"}, {"c", "d"}}, api.ErrAbsent},
		{[][2]string{{"a", "c"}, {"a", "d"}, {"none", "e"}}, api.ErrAbsent},
		{[][2]string{{"a", "c"}, {"a", "c"}}, api.ErrClash},
		{[][2]string{{"a", "b"}}, api.ErrClash},
		{[][2]string{{"x", "y"}}, api.ErrClash},
		{[][2]string{{"", "y"}}, api.ErrAbsent},
	} {
		if got, err := rename.Rename(items(), x.names); err != x.want || !reflect.DeepEqual(got, rename.Items{}) {
			t.Error(x, got, err)
		}
	}
}

func TestChange(t *testing.T) {
	x := items()
	l := []api.Change{{Label: "x", Right: []api.Name{sym("b", sym("c"))}}, {Kind: api.ChangeRemove, Label: "y"}, {Kind: 7, Label: "x", Right: []api.Name{sym("d", sym("e"))}}}
	got, err := rename.Change(x, l)
	want := normed()
	want.Rules = want.Rules[:1]
	want.Rules[0].Right = []api.Name{sym("d", sym("e"))}
	if err != api.OK || !rename.Same(got, want) {
		t.Error(got, err)
	}
	got.Rules[0].Right[0].Arg[0].Of = "shared"
	got.Rules[0].Sort.Arg[0].Of = "shared"
	if !reflect.DeepEqual(x, items()) || l[2].Right[0].Arg[0].Of != "e" {
		t.Error("shared")
	}
	if got, err := rename.Change(x, nil); err != api.OK || !rename.Same(got, normed()) {
		t.Error(got, err)
	}
	for _, l := range [][]api.Change{
		{{Label: "none"}},
		{{Kind: api.ChangeRemove, Label: "a"}},
		{{Kind: api.ChangeRemove, Label: "x"}, {Label: "x"}},
		{{Kind: api.ChangeRemove, Label: "x"}, {Kind: api.ChangeRemove, Label: "x"}},
	} {
		if got, err := rename.Change(x, l); err != api.ErrAbsent || !reflect.DeepEqual(got, rename.Items{}) {
			t.Error(l, got, err)
		}
	}
}

func TestSame(t *testing.T) {
	for i, spoil := range []func(*rename.Items){
		func(x *rename.Items) { x.Terms[0].Class = 9 },
		func(x *rename.Items) { x.Terms = x.Terms[:1] },
		func(x *rename.Items) { slices.Reverse(x.Terms) },
		func(x *rename.Items) { x.Over[0][1] = "z" },
		func(x *rename.Items) { x.Rules[0].Right[0].Arg[0].Arg = nil },
		func(x *rename.Items) { x.Rules[1].Label = "z" },
	} {
		x := normed()
		if spoil(&x); rename.Same(x, normed()) || rename.Same(normed(), x) {
			t.Error(i)
		}
	}
	if !rename.Same(rename.Items{}, rename.Items{Terms: []api.Term{}, Over: [][2]string{}, Rules: []api.Rule{}}) {
		t.Error("lists without things are alike")
	}
}

func TestAnswersShareNothing(t *testing.T) {
	for i, f := range []func(rename.Items) (rename.Items, api.Errno){
		rename.Norm,
		func(x rename.Items) (rename.Items, api.Errno) { return rename.Union(x, x) },
		func(x rename.Items) (rename.Items, api.Errno) { return rename.Rename(x, nil) },
		func(x rename.Items) (rename.Items, api.Errno) { return rename.Change(x, nil) },
	} {
		x := normed()
		got, _ := f(x)
		got.Terms[0].Name, got.Over[0][0], got.Rules[0].Label = "?", "?", "?"
		got.Rules[0].Sort.Arg[0].Of, got.Rules[0].Right[0].Arg[0].Of, got.Rules[1].Right[0].Of = "?", "?", "?"
		if !reflect.DeepEqual(x, normed()) {
			t.Error(i)
		}
	}
}
