package elab_test

import (
	"math/rand"
	"reflect"
	"slices"
	"strconv"
	"testing"

	"syntagm/api"
	"syntagm/elab"
	"syntagm/rename"
)

func sym(of string, arg ...api.Name) api.Name { return api.Name{Of: of, Arg: arg} }

func mod(name string, imports ...string) api.Module {
	m := api.Module{Name: name, Start: "S"}
	for _, i := range imports {
		m.Imports = append(m.Imports, api.Import{Module: i})
	}
	return m
}

func with(m api.Module, terms ...string) api.Module {
	for _, t := range terms {
		m.Terms = append(m.Terms, api.Term{Name: t, Regex: t})
	}
	return m
}

func terms(x rename.Items) []string {
	var l []string
	for _, t := range x.Terms {
		l = append(l, t.Name)
	}
	return l
}

func TestExample(t *testing.T) {
	a, b := with(mod("a"), "t"), with(mod("b", "a"), "v")
	x, start, err := elab.Elab([]api.Module{a, b}, "b")
	if err != api.OK || start != "S" || !slices.Equal(terms(x), []string{"t", "v"}) {
		t.Error(x, start, err)
	}
	b.Imports[0].Names = [][2]string{{"t", "u"}}
	b.Terms = nil
	if x, _, err := elab.Elab([]api.Module{a, b}, "b"); err != api.OK || !slices.Equal(terms(x), []string{"u"}) {
		t.Error(x, err)
	}
}

func TestWhatAModuleIs(t *testing.T) {
	a := with(mod("a"), "t")
	a.Over = [][2]string{{"t", "t"}}
	a.Rules = []api.Rule{{Label: "r", Sort: sym("S"), Right: []api.Name{sym("t")}, Class: 3}, {Label: "q", Sort: sym("S")}}
	b := mod("b", "a", "a")
	b.Imports[1].Names = [][2]string{{"t", "u"}, {"r", "s"}, {"q", "p"}, {"S", "T"}}
	b.Rules = []api.Rule{{Label: "own", Sort: sym("S"), Right: []api.Name{sym("T")}}}
	b.Changes = []api.Change{{Label: "own", Right: []api.Name{sym("u")}}, {Kind: api.ChangeRemove, Label: "q"}}
	got, start, err := elab.Elab([]api.Module{b, a}, "b")
	want := rename.Items{
		Terms: []api.Term{{Name: "t", Regex: "t"}, {Name: "u", Regex: "t"}},
		Over:  [][2]string{{"t", "t"}, {"u", "u"}},
		Rules: []api.Rule{
			{Label: "own", Sort: sym("S"), Right: []api.Name{sym("u")}},
			{Label: "p", Sort: sym("T")},
			{Label: "r", Sort: sym("S"), Right: []api.Name{sym("t")}, Class: 3},
			{Label: "s", Sort: sym("T"), Right: []api.Name{sym("u")}, Class: 3},
		},
	}
	if err != api.OK || start != "S" || !rename.Same(got, want) {
		t.Error(got, start, err)
	}
}

func TestTheLastOneCounts(t *testing.T) {
	l := []api.Module{with(mod("a"), "t"), mod("b", "a"), with(mod("a"), "u")}
	if x, _, err := elab.Elab(l, "b"); err != api.OK || !slices.Equal(terms(x), []string{"u"}) {
		t.Error(x, err)
	}
}

func TestImportedTwice(t *testing.T) {
	l := []api.Module{with(mod("a"), "t"), mod("b", "a", "a"), mod("c", "a", "b"), mod("d", "b", "c", "a")}
	if x, _, err := elab.Elab(l, "d"); err != api.OK || !slices.Equal(terms(x), []string{"t"}) {
		t.Error(x, err)
	}
	// Each module is told once, or this would not end.
	l = []api.Module{with(mod("m0"), "t")}
	for i := range 200 {
		before := "m" + strconv.Itoa(i)
		l = append(l, mod("m"+strconv.Itoa(i+1), before, before))
	}
	if x, _, err := elab.Elab(l, "m200"); err != api.OK || len(x.Terms) != 1 {
		t.Error(x, err)
	}
	if names, err := elab.Order(l, "m200"); err != api.OK || len(names) != 201 {
		t.Error(names, err)
	}
}

func TestErrors(t *testing.T) {
	renamed := func(m api.Module, at int, names ...[2]string) api.Module {
		m.Imports[at].Names = names
		return m
	}
	changed := func(m api.Module, l ...api.Change) api.Module {
		m.Changes = l
		return m
	}
	clash := with(mod("clash"), "t")
	clash.Terms[0].Class = 7
	self := with(mod("self"), "t", "t")
	self.Terms[1].Class = 7
	selfAndNone := with(mod("selfAndNone", "nowhere"), "t", "t")
	selfAndNone.Terms[1].Class = 7
	noStart := with(mod("noStart"), "t")
	noStart.Start = ""
	absent := [2]string{"none", "x"}
	l := []api.Module{
		with(mod("a"), "t"), clash, self, noStart,
		mod("one", "one"),
		mod("two", "three"), mod("three", "two"),
		mod("none", "nowhere"),
		mod("cycleThenNone", "one", "none"), mod("noneThenCycle", "none", "one"),
		renamed(mod("absentThenNone", "a", "nowhere"), 0, absent),
		renamed(mod("noneThenAbsent", "nowhere", "a"), 1, absent),
		mod("clashes", "a", "clash"),
		mod("noneAheadOfClash", "a", "clash", "nowhere"),
		selfAndNone,
		with(mod("ownClash", "clash"), "t"),
		changed(mod("clashThenAbsent", "a", "clash"), api.Change{Label: "none"}),
		changed(with(mod("change"), "t"), api.Change{Label: "none"}),
		changed(api.Module{Name: "changeThenStart"}, api.Change{Label: "none"}),
		renamed(with(mod("twice", "a")), 0, [2]string{"t", "u"}, [2]string{"t", "v"}),
		mod("startOfAnother", "noStart"),
	}
	for root, want := range map[string]api.Errno{
		"a": api.OK, "nowhere": api.ErrNone, "": api.ErrNone, "one": api.ErrCycle, "two": api.ErrCycle, "three": api.ErrCycle, "none": api.ErrNone,
		"cycleThenNone": api.ErrCycle, "noneThenCycle": api.ErrNone, "absentThenNone": api.ErrAbsent, "noneThenAbsent": api.ErrNone,
		"clashes": api.ErrClash, "noneAheadOfClash": api.ErrNone, "self": api.ErrClash, "ownClash": api.ErrClash, "clashThenAbsent": api.ErrClash,
		"change": api.ErrAbsent, "changeThenStart": api.ErrAbsent, "noStart": api.ErrStart, "twice": api.ErrClash, "startOfAnother": api.OK, "selfAndNone": api.ErrNone,
	} {
		x, start, err := elab.Elab(l, root)
		if err != want || err != api.OK && (start != "" || !reflect.DeepEqual(x, rename.Items{})) {
			t.Error(root, x, start, err)
		}
	}
	for root, want := range map[string]api.Errno{
		"nowhere": api.ErrNone, "one": api.ErrCycle, "two": api.ErrCycle, "none": api.ErrNone, "cycleThenNone": api.ErrCycle, "noneThenCycle": api.ErrNone,
		"absentThenNone": api.ErrNone, "clashes": api.OK, "change": api.OK, "noStart": api.OK, "self": api.OK,
	} {
		names, err := elab.Order(l, root)
		if err != want || (err == api.OK) != (len(names) > 0) {
			t.Error(root, names, err)
		}
	}
}

func TestOrder(t *testing.T) {
	l := []api.Module{mod("d", "c", "b"), mod("c", "a"), mod("b", "a", "e"), mod("a"), mod("e"), mod("f", "d")}
	if names, err := elab.Order(l, "d"); err != api.OK || !slices.Equal(names, []string{"a", "c", "e", "b", "d"}) {
		t.Error(names, err)
	}
	if names, err := elab.Order(l, "a"); err != api.OK || !slices.Equal(names, []string{"a"}) {
		t.Error(names, err)
	}
}

func TestInWhateverOrderModulesCome(t *testing.T) {
	rnd := rand.New(rand.NewSource(1))
	for range 500 {
		var l []api.Module
		for i := range 6 {
			m := with(mod("m"+strconv.Itoa(i)), "t"+strconv.Itoa(rnd.Intn(4)))
			for range rnd.Intn(3) {
				to := rnd.Intn(7)
				if rnd.Intn(4) > 0 {
					to = rnd.Intn(i + 1)
				}
				one := api.Import{Module: "m" + strconv.Itoa(to)}
				if rnd.Intn(3) == 0 {
					one.Names = [][2]string{{"t" + strconv.Itoa(rnd.Intn(4)), "t" + strconv.Itoa(rnd.Intn(4))}}
				}
				m.Imports = append(m.Imports, one)
			}
			l = append(l, m)
		}
		for i := range l {
			x, start, err := elab.Elab(l, l[i].Name)
			names, orderErr := elab.Order(l, l[i].Name)
			other := slices.Clone(l)
			rnd.Shuffle(len(other), func(i, j int) { other[i], other[j] = other[j], other[i] })
			y, again, otherErr := elab.Elab(other, l[i].Name)
			otherNames, otherOrderErr := elab.Order(other, l[i].Name)
			if !rename.Same(x, y) || start != again || err != otherErr || !slices.Equal(names, otherNames) || orderErr != otherOrderErr {
				t.Fatal(l, l[i].Name)
			}
		}
	}
}

func TestOwn(t *testing.T) {
	m := with(mod("a", "b"), "t", "s", "t")
	m.Over = [][2]string{{"t", "s"}}
	m.Rules = []api.Rule{{Label: "l", Sort: sym("S", sym("x")), Right: []api.Name{sym("x", sym("y"))}}}
	x := elab.Own(m)
	if !rename.Same(x, rename.Items{Terms: m.Terms, Over: m.Over, Rules: m.Rules}) {
		t.Error(x)
	}
	x.Terms[0].Name, x.Over[0][0], x.Rules[0].Sort.Arg[0].Of, x.Rules[0].Right[0].Arg[0].Of = "", "", "", ""
	if m.Terms[0].Name != "t" || m.Over[0][0] != "t" || m.Rules[0].Sort.Arg[0].Of != "x" || m.Rules[0].Right[0].Arg[0].Of != "y" {
		t.Error("shared")
	}
}

func TestAnswersShareNothing(t *testing.T) {
	m := with(mod("a"), "t")
	m.Rules = []api.Rule{{Label: "l", Sort: sym("S"), Right: []api.Name{sym("x", sym("y"))}}}
	l := []api.Module{m}
	x, _, _ := elab.Elab(l, "a")
	x.Terms[0].Name, x.Rules[0].Right[0].Arg[0].Of = "", ""
	if m.Terms[0].Name != "t" || m.Rules[0].Right[0].Arg[0].Of != "y" {
		t.Error("shared")
	}
}
