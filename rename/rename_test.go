package rename

import (
	"math/rand"
	"reflect"
	"slices"
	"testing"

	"syntagm/api"
)

func sym(of string, arg ...api.Name) api.Name { return api.Name{Of: of, Arg: arg} }

func rule(label, sort string, right ...string) api.Rule {
	r := api.Rule{Label: label, Sort: sym(sort)}
	for _, s := range right {
		r.Right = append(r.Right, sym(s))
	}
	return r
}

func items() Items {
	return Items{
		Terms: []api.Term{{Name: "b", Regex: "b"}, {Name: "a", Regex: "a", Class: 2}, {Name: "b", Regex: "b"}},
		Over:  [][2]string{{"b", "a"}, {"a", "b"}, {"a", "a"}, {"b", "a"}},
		Rules: []api.Rule{rule("y", "S", "a"), {Label: "x", Sort: sym("L", sym("p")), Right: []api.Name{sym("L", sym("M", sym("q")))}, Class: 4}, rule("y", "S", "a")},
	}
}

func normed() Items {
	x := items()
	return Items{
		Terms: []api.Term{x.Terms[1], x.Terms[0]},
		Over:  [][2]string{{"a", "a"}, {"a", "b"}, {"b", "a"}},
		Rules: []api.Rule{x.Rules[1], x.Rules[0]},
	}
}

func TestNorm(t *testing.T) {
	x := items()
	got, err := Norm(x)
	if err != api.OK || !Same(got, normed()) {
		t.Error(got, err)
	}
	if !reflect.DeepEqual(x, items()) {
		t.Error("the argument is changed")
	}
	if got, err := Norm(Items{}); err != api.OK || !Same(got, Items{}) {
		t.Error(got, err)
	}
}

func TestNormFails(t *testing.T) {
	for i, spoil := range []func(*Items){
		func(x *Items) { x.Terms[2].Regex = "c" },
		func(x *Items) { x.Terms[2].Layout = true },
		func(x *Items) { x.Terms[2].Class = 1 },
		func(x *Items) { x.Rules[2].Class = 1 },
		func(x *Items) { x.Rules[2].Sort.Of = "T" },
		func(x *Items) { x.Rules[2].Right[0].Of = "b" },
		func(x *Items) { x.Rules[2].Right = nil },
		func(x *Items) { x.Rules[2].Right[0].Arg = []api.Name{sym("b")} },
	} {
		x := items()
		spoil(&x)
		for _, f := range []func() (Items, api.Errno){
			func() (Items, api.Errno) { return Norm(x) },
			func() (Items, api.Errno) { return Union(x, Items{}) },
			func() (Items, api.Errno) { return Union(items(), x) },
			func() (Items, api.Errno) { return Rename(x, nil) },
			func() (Items, api.Errno) { return Change(x, []api.Change{{Label: "none"}}) },
		} {
			if got, err := f(); err != api.ErrClash || !reflect.DeepEqual(got, Items{}) {
				t.Error(i, got, err)
			}
		}
	}
}

// some is a part of what is declared.
func some(rnd *rand.Rand) Items {
	x := normed()
	x.Rules = append(x.Rules, rule("z", "S"), rule("zz", "T", "b", "S"))
	keep := func() bool { return rnd.Intn(2) == 0 }
	x.Terms = slices.DeleteFunc(x.Terms, func(api.Term) bool { return keep() })
	x.Over = slices.DeleteFunc(x.Over, func([2]string) bool { return keep() })
	x.Rules = slices.DeleteFunc(x.Rules, func(api.Rule) bool { return keep() })
	return x
}

func TestInWhateverOrder(t *testing.T) {
	rnd := rand.New(rand.NewSource(1))
	for range 1000 {
		a, b, c := some(rnd), some(rnd), some(rnd)
		ab, _ := Union(a, b)
		ba, _ := Union(b, a)
		bc, _ := Union(b, c)
		left, _ := Union(ab, c)
		right, err := Union(a, bc)
		if err != api.OK || !Same(ab, ba) || !Same(left, right) {
			t.Fatal(a, b, c)
		}
		if aa, _ := Union(a, a); !Same(aa, a) {
			t.Fatal(a, aa)
		}
		rnd.Shuffle(len(left.Rules), func(i, j int) { left.Rules[i], left.Rules[j] = left.Rules[j], left.Rules[i] })
		slices.Reverse(left.Terms)
		slices.Reverse(left.Over)
		if again, _ := Norm(left); !Same(again, right) {
			t.Fatal(again, right)
		}
	}
}

func TestNames(t *testing.T) {
	if got := Names(items()); !slices.Equal(got, []string{"L", "M", "S", "a", "b", "p", "q", "x", "y"}) {
		t.Error(got)
	}
	if got := Names(Items{Over: [][2]string{{"v", "u"}}}); !slices.Equal(got, []string{"u", "v"}) {
		t.Error(got)
	}
	if len(Names(Items{})) != 0 {
		t.Error("of nothing")
	}
}

func TestRename(t *testing.T) {
	x := items()
	got, err := Rename(x, [][2]string{{"a", "b"}, {"b", "a"}, {"q", "r"}, {"x", "z"}, {"L", "K"}})
	want := Items{
		Terms: []api.Term{{Name: "a", Regex: "b"}, {Name: "b", Regex: "a", Class: 2}},
		Over:  [][2]string{{"a", "b"}, {"b", "a"}, {"b", "b"}},
		Rules: []api.Rule{rule("y", "S", "b"), {Label: "z", Sort: sym("K", sym("p")), Right: []api.Name{sym("K", sym("M", sym("r")))}, Class: 4}},
	}
	if err != api.OK || !Same(got, want) {
		t.Error(got, err)
	}
	if !reflect.DeepEqual(x, items()) {
		t.Error("the argument is changed")
	}
	if got, err := Rename(x, nil); err != api.OK || !Same(got, normed()) {
		t.Error(got, err)
	}
	if got, err := Rename(Items{Terms: []api.Term{{Name: "a"}}}, [][2]string{{"a", "b"}}); err != api.OK || got.Terms[0].Name != "b" {
		t.Error(got, err)
	}
	if got, err := Rename(x, [][2]string{{"a", "a"}}); err != api.OK || !Same(got, normed()) {
		t.Error(got, err)
	}
}

func TestRenameFails(t *testing.T) {
	for _, x := range []struct {
		names [][2]string
		want  api.Errno
	}{
		{[][2]string{{"a", "c"}, {"c", "d"}}, api.ErrAbsent},
		{[][2]string{{"a", "c"}, {"a", "d"}, {"none", "e"}}, api.ErrAbsent},
		{[][2]string{{"a", "c"}, {"a", "c"}}, api.ErrClash},
		{[][2]string{{"a", "b"}}, api.ErrClash},
		{[][2]string{{"x", "y"}}, api.ErrClash},
		{[][2]string{{"", "y"}}, api.ErrAbsent},
	} {
		if got, err := Rename(items(), x.names); err != x.want || !reflect.DeepEqual(got, Items{}) {
			t.Error(x, got, err)
		}
	}
}

func TestChange(t *testing.T) {
	x := items()
	l := []api.Change{{Label: "x", Right: []api.Name{sym("b", sym("c"))}}, {Kind: api.ChangeRemove, Label: "y"}, {Kind: 7, Label: "x", Right: []api.Name{sym("d", sym("e"))}}}
	got, err := Change(x, l)
	want := normed()
	want.Rules = want.Rules[:1]
	want.Rules[0].Right = []api.Name{sym("d", sym("e"))}
	if err != api.OK || !Same(got, want) {
		t.Error(got, err)
	}
	got.Rules[0].Right[0].Arg[0].Of = "shared"
	got.Rules[0].Sort.Arg[0].Of = "shared"
	if !reflect.DeepEqual(x, items()) || l[2].Right[0].Arg[0].Of != "e" {
		t.Error("shared")
	}
	if got, err := Change(x, nil); err != api.OK || !Same(got, normed()) {
		t.Error(got, err)
	}
	for _, l := range [][]api.Change{
		{{Label: "none"}},
		{{Kind: api.ChangeRemove, Label: "a"}},
		{{Kind: api.ChangeRemove, Label: "x"}, {Label: "x"}},
		{{Kind: api.ChangeRemove, Label: "x"}, {Kind: api.ChangeRemove, Label: "x"}},
	} {
		if got, err := Change(x, l); err != api.ErrAbsent || !reflect.DeepEqual(got, Items{}) {
			t.Error(l, got, err)
		}
	}
}

func TestSame(t *testing.T) {
	for i, spoil := range []func(*Items){
		func(x *Items) { x.Terms[0].Class = 9 },
		func(x *Items) { x.Terms = x.Terms[:1] },
		func(x *Items) { slices.Reverse(x.Terms) },
		func(x *Items) { x.Over[0][1] = "z" },
		func(x *Items) { x.Rules[0].Right[0].Arg[0].Arg = nil },
		func(x *Items) { x.Rules[1].Label = "z" },
	} {
		x := normed()
		if spoil(&x); Same(x, normed()) || Same(normed(), x) {
			t.Error(i)
		}
	}
	if !Same(Items{}, Items{Terms: []api.Term{}, Over: [][2]string{}, Rules: []api.Rule{}}) {
		t.Error("lists without things are alike")
	}
}

func TestAnswersShareNothing(t *testing.T) {
	for i, f := range []func(Items) (Items, api.Errno){
		Norm,
		func(x Items) (Items, api.Errno) { return Union(x, x) },
		func(x Items) (Items, api.Errno) { return Rename(x, nil) },
		func(x Items) (Items, api.Errno) { return Change(x, nil) },
	} {
		x := normed()
		got, _ := f(x)
		got.Terms[0].Name, got.Over[0][0], got.Rules[0].Label = "?", "?", "?"
		got.Rules[0].Sort.Arg[0].Of, got.Rules[0].Right[0].Arg[0].Of, got.Rules[1].Right[0].Of = "?", "?", "?"
		if !reflect.DeepEqual(x, normed()) {
			t.Error(i)
		}
	}
}
