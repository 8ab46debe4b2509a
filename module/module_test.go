package module_test

import (
	"math/rand"
	"reflect"
	"strings"
	"testing"

	"syntagm/api"
	"syntagm/module"
)

const whole = `# all there is
module m

import a
import b x = y  S=T
term if /if/
term id /[a-z]+\/?/ class 2   # a name
term ws /\s/ layout
term c /c/ layout class 999999999
over if id
rule x S = a S(a) ; 3
rule module rule(over(x)) =
rule y S = ; 0
change x = a b(c(d))
change z =
remove w
start S
`

func sym(of string, arg ...api.Name) api.Name { return api.Name{Of: of, Arg: arg} }

func wanted() api.Module {
	return api.Module{
		Name:    "m",
		Imports: []api.Import{{Module: "a"}, {Module: "b", Names: [][2]string{{"x", "y"}, {"S", "T"}}}},
		Terms:   []api.Term{{Name: "if", Regex: "if"}, {Name: "id", Regex: "[a-z]+/?", Class: 2}, {Name: "ws", Regex: `\s`, Layout: true}, {Name: "c", Regex: "c", Layout: true, Class: 999999999}},
		Over:    [][2]string{{"if", "id"}},
		Rules: []api.Rule{
			{Label: "x", Sort: sym("S"), Right: []api.Name{sym("a"), sym("S", sym("a"))}, Class: 3},
			{Label: "module", Sort: sym("rule", sym("over", sym("x")))},
			{Label: "y", Sort: sym("S")},
		},
		Changes: []api.Change{{Kind: api.ChangeRight, Label: "x", Right: []api.Name{sym("a"), sym("b", sym("c", sym("d")))}}, {Kind: api.ChangeRight, Label: "z"}, {Kind: api.ChangeRemove, Label: "w"}},
		Start:   "S",
	}
}

func TestParse(t *testing.T) {
	m, err, at := module.Parse(whole)
	if err != api.OK || at != 0 || !module.Same(m, wanted()) {
		t.Error(m, err, at)
	}
	if m, err, _ := module.Parse("module m"); err != api.OK || !module.Same(m, api.Module{Name: "m"}) {
		t.Error(m, err)
	}
	// In any order, and an End is not needed behind the last line.
	if m, err, _ := module.Parse("module m\nstart S\nrule x S =\nimport a"); err != api.OK || m.Start != "S" || len(m.Rules) != 1 || len(m.Imports) != 1 {
		t.Error(m, err)
	}
}

func TestPrint(t *testing.T) {
	const want = `module m
import a
import b x = y S = T
term if /if/
term id /[a-z]+\/?/ class 2
term ws /\s/ layout
term c /c/ layout class 999999999
over if id
rule x S = a S(a) ; 3
rule module rule(over(x)) =
rule y S =
change x = a b(c(d))
change z =
remove w
start S
`
	if got, err := module.Print(wanted()); got != want || err != api.OK {
		t.Error(got, err)
	}
	if got, err := module.Print(api.Module{Name: "m"}); got != "module m\n" || err != api.OK {
		t.Error(got, err)
	}
}

func TestParseFails(t *testing.T) {
	names := strings.Repeat("a", 33)
	deep := strings.Repeat("a(", 9) + "a" + strings.Repeat(")", 9)
	for _, x := range []struct {
		text string
		err  api.Errno
		at   int
	}{
		{"", api.ErrForm, 0},
		{" # x\n\n", api.ErrForm, 6},
		{"a", api.ErrForm, 0},
		{"\n\n import a", api.ErrForm, 3},
		{"module", api.ErrForm, 6},
		{"module 3", api.ErrForm, 7},
		{"module m n", api.ErrForm, 9},
		{"module m\nmodule m", api.ErrForm, 9},
		{"module m\nfoo", api.ErrForm, 9},
		{"module m\n/import/ a", api.ErrForm, 9},
		{"module m\nimport", api.ErrForm, 15},
		{"module m\nimport a x", api.ErrForm, 19},
		{"module m\nimport a x =", api.ErrForm, 21},
		{"module m\nimport a x = y z\n", api.ErrForm, 25},
		{"module m\nimport a , b", api.ErrForm, 18},
		{"module m\nterm a", api.ErrForm, 15},
		{"module m\nterm /a/", api.ErrForm, 14},
		{"module m\nterm a /a/ class", api.ErrForm, 25},
		{"module m\nterm a /a/ class x", api.ErrForm, 26},
		{"module m\nterm a /a/ class 3 layout", api.ErrForm, 28},
		{"module m\nterm a /a/ layout layout", api.ErrForm, 27},
		{"module m\nover a", api.ErrForm, 15},
		{"module m\nover a b c", api.ErrForm, 18},
		{"module m\nrule l", api.ErrForm, 15},
		{"module m\nrule l S", api.ErrForm, 17},
		{"module m\nrule l S a", api.ErrForm, 18},
		{"module m\nrule l S( = a", api.ErrForm, 19},
		{"module m\nrule l S = a(", api.ErrForm, 22},
		{"module m\nrule l S = a(b c)", api.ErrForm, 24},
		{"module m\nrule l S = (b)", api.ErrForm, 20},
		{"module m\nrule l S = a ;", api.ErrForm, 23},
		{"module m\nrule l S = a ; b", api.ErrForm, 24},
		{"module m\nrule l S = a ; 3 b", api.ErrForm, 26},
		{"module m\nrule l S = a 3", api.ErrForm, 22},
		{"module m\nrule l(x) S = a", api.ErrForm, 15},
		{"module m\nchange l = a ; 3", api.ErrForm, 22},
		{"module m\nchange l a", api.ErrForm, 18},
		{"module m\nremove", api.ErrForm, 15},
		{"module m\nremove l = a", api.ErrForm, 18},
		{"module m\nstart", api.ErrForm, 14},
		{"module m\nstart S(a)", api.ErrForm, 16},
		{"module m\nstart S\nstart S", api.ErrForm, 17},
		{"module m\nstart S\nstart", api.ErrForm, 17},
		{"foo !", api.ErrForm, 4},
		{"foo " + names, api.ErrMany, 4},
		{strings.Repeat("\n", 20001), api.ErrMany, 0},
		{"module m\nrule l S = " + strings.Repeat("a ", 13), api.ErrMany, 9},
		{"module m\nrule l S = " + strings.Repeat("a ", 13) + "= ", api.ErrForm, 46},
		{"module m\nimport a" + strings.Repeat(" x = y", 13), api.ErrMany, 9},
		{"module m\n rule l S = " + deep, api.ErrMany, 10},
		{"module m\nrule l " + deep + " =", api.ErrMany, 9},
		{"module m\nchange l = b " + deep, api.ErrMany, 9},
		{"module m\nrule l S = " + deep + "\nfoo", api.ErrMany, 9},
		{"module m\nfoo\nrule l S = " + deep, api.ErrForm, 9},
		{lots("import a", 61), api.ErrMany, 9 + 60*9},
		{lots("term a /a/", 61), api.ErrMany, 9 + 60*11},
		{lots("over a a", 61), api.ErrMany, 9 + 60*9},
		{lots("remove a", 61), api.ErrMany, 9 + 60*9},
		{lots("remove a\nchange a =", 31), api.ErrMany, 9 + 30*20},
		{lots("rule a a =", 121), api.ErrMany, 9 + 120*11},
		{lots("rule a a =", 121) + "!", api.ErrForm, 9 + 121*11},
	} {
		m, err, at := module.Parse(x.text)
		if err != x.err || at != x.at || !reflect.DeepEqual(m, api.Module{}) {
			t.Errorf("Parse(%.60q): %v, %d; want %v, %d", x.text, err, at, x.err, x.at)
		}
	}
}

func lots(line string, n int) string { return "module m\n" + strings.Repeat(line+"\n", n) }

func TestWhatMayJustBe(t *testing.T) {
	deep := strings.Repeat("a(", 8) + "a" + strings.Repeat(")", 8)
	for _, text := range []string{
		lots("import a", 60), lots("term a /a/", 60), lots("over a a", 60), lots("remove a", 60), lots("rule a a =", 120),
		"module m\nimport a" + strings.Repeat(" x = y", 12),
		"module m\nrule l " + deep + " = " + strings.Repeat(deep+" ", 12),
		"module m\nchange l = " + strings.Repeat("a ", 12),
		"module m\nterm a /(/", // any text is a regex here
	} {
		m, err, _ := module.Parse(text)
		if err != api.OK || !module.Valid(m) {
			t.Errorf("%.60q: %v", text, err)
		}
	}
}

func TestNotValid(t *testing.T) {
	long := strings.Repeat("n", 33)
	deep := sym("a")
	for range 9 {
		deep = sym("a", deep)
	}
	for i, spoil := range []func(*api.Module){
		func(m *api.Module) { m.Name = "" },
		func(m *api.Module) { m.Name = long },
		func(m *api.Module) { m.Start = "9" },
		func(m *api.Module) { m.Imports[0].Module = "" },
		func(m *api.Module) { m.Imports[1].Names[0][1] = "a b" },
		func(m *api.Module) { m.Imports[1].Names = make2(13) },
		func(m *api.Module) { m.Imports = make([]api.Import, 61) },
		func(m *api.Module) { m.Terms[0].Name = "é" },
		func(m *api.Module) { m.Terms[0].Regex = "\n" },
		func(m *api.Module) { m.Terms[0].Regex = `a\/` },
		func(m *api.Module) { m.Terms[0].Regex = strings.Repeat("a", 20000) },
		func(m *api.Module) { m.Terms[0].Class = -1 },
		func(m *api.Module) { m.Terms[0].Class = 1000000000 },
		func(m *api.Module) { m.Over[0][0] = "" },
		func(m *api.Module) { m.Over = make2(61) },
		func(m *api.Module) { m.Rules[0].Label = "" },
		func(m *api.Module) { m.Rules[0].Class = -3 },
		func(m *api.Module) { m.Rules[0].Sort = deep },
		func(m *api.Module) { m.Rules[0].Right[0] = deep },
		func(m *api.Module) { m.Rules[0].Right[0] = sym("a", sym("b"), sym("c")) },
		func(m *api.Module) { m.Rules[0].Right = make([]api.Name, 13) },
		func(m *api.Module) { m.Rules[0].Right[0].Of = "a(b)" },
		func(m *api.Module) { m.Changes[0].Kind = 2 },
		func(m *api.Module) { m.Changes[0].Kind = -1 },
		func(m *api.Module) { m.Changes[0].Kind = api.ChangeRemove }, // with a right side
		func(m *api.Module) { m.Changes[0].Label = "-" },
		func(m *api.Module) { m.Changes[2].Label = "-" },
	} {
		m := wanted()
		if !module.Valid(m) {
			t.Fatal("it is valid")
		}
		spoil(&m)
		text, err := module.Print(m)
		if module.Valid(m) || text != "" || err != api.ErrArg || module.Same(m, wanted()) {
			t.Error(i, text, err)
		}
	}
}

func make2(n int) [][2]string {
	l := make([][2]string, n)
	for i := range l {
		l[i] = [2]string{"a", "b"}
	}
	return l
}

func TestATextMayBeTooLong(t *testing.T) {
	m := wanted()
	text, _ := module.Print(m)
	m.Terms[0].Regex += strings.Repeat("a", api.MaxText-len(text))
	if text, err := module.Print(m); err != api.OK || len(text) != api.MaxText || !module.Valid(m) {
		t.Error(err, len(text))
	}
	m.Terms[0].Regex += "a"
	if _, err := module.Print(m); err != api.ErrArg || module.Valid(m) {
		t.Error("20001 bytes")
	}
	// Words may stand closer than they are printed: then a text may be read whose module has none that is printed.
	name := strings.Repeat("n", 32)
	near := "module m"
	for range 40 {
		near += "\nrule l S=" + strings.TrimSuffix(strings.Repeat(name+" ", 12), " ")
	}
	near += "\nterm a/" + strings.Repeat("a", api.MaxText-len(near)-9) + "/"
	m, err, _ := module.Parse(near)
	if err != api.OK || len(near) != api.MaxText || module.Valid(m) {
		t.Error(err, len(near))
	}
	if _, err := module.Print(m); err != api.ErrArg {
		t.Error(err)
	}
}

func TestSame(t *testing.T) {
	for i, spoil := range []func(*api.Module){
		func(m *api.Module) { m.Name = "n" },
		func(m *api.Module) { m.Start = "" },
		func(m *api.Module) { m.Imports[0].Module = "b" },
		func(m *api.Module) { m.Imports[1].Names[1][1] = "b" },
		func(m *api.Module) { m.Terms[2].Layout = false },
		func(m *api.Module) { m.Over[0][1] = "b" },
		func(m *api.Module) { m.Rules[0].Right[1].Arg = nil },
		func(m *api.Module) { m.Rules = m.Rules[:2] },
		func(m *api.Module) { m.Changes[1].Kind = api.ChangeRemove },
		func(m *api.Module) { m.Changes[1].Label = "y" },
		func(m *api.Module) { m.Changes[0].Right[0].Of = "b" },
	} {
		m := wanted()
		if spoil(&m); module.Same(m, wanted()) || module.Same(wanted(), m) {
			t.Error(i)
		}
	}
	if !module.Same(api.Module{}, api.Module{Terms: []api.Term{}, Rules: []api.Rule{}}) {
		t.Error("lists without things are alike")
	}
}

func TestShow(t *testing.T) {
	for _, x := range []struct {
		n    api.Name
		want string
	}{{sym("a"), "a"}, {sym("a", sym("b")), "a(b)"}, {sym("a", sym("b", sym("c"))), "a(b(c))"}} {
		if got := module.Show(x.n); got != x.want {
			t.Error(got, x.want)
		}
	}
}

// some is a module of small parts.
func some(rnd *rand.Rand) api.Module {
	name := func() string { return []string{"a", "S", "layout", "class", "rule", "_9"}[rnd.Intn(6)] }
	var symbol func() api.Name
	symbol = func() api.Name {
		if rnd.Intn(3) == 0 {
			return sym(name(), symbol())
		}
		return sym(name())
	}
	right := func() []api.Name {
		var l []api.Name
		for range rnd.Intn(4) {
			l = append(l, symbol())
		}
		return l
	}
	m := api.Module{Name: name()}
	for range rnd.Intn(3) {
		i := api.Import{Module: name()}
		for range rnd.Intn(3) {
			i.Names = append(i.Names, [2]string{name(), name()})
		}
		m.Imports = append(m.Imports, i)
		m.Terms = append(m.Terms, api.Term{Name: name(), Regex: []string{"", "/", "a b", `\\`, "#;"}[rnd.Intn(5)], Layout: rnd.Intn(2) == 0, Class: rnd.Intn(3)})
		m.Over = append(m.Over, [2]string{name(), name()})
		m.Rules = append(m.Rules, api.Rule{Label: name(), Sort: symbol(), Right: right(), Class: rnd.Intn(3)})
		m.Changes = append(m.Changes, api.Change{Label: name(), Right: right()}, api.Change{Kind: api.ChangeRemove, Label: name()})
	}
	if rnd.Intn(2) == 0 {
		m.Start = name()
	}
	return m
}

func TestWhatIsPrintedIsParsedAgain(t *testing.T) {
	rnd := rand.New(rand.NewSource(1))
	for range 2000 {
		m := some(rnd)
		text, err := module.Print(m)
		if err != api.OK {
			if module.Valid(m) {
				t.Fatal(m)
			}
			continue // an argument is too deep
		}
		again, err, _ := module.Parse(text)
		if err != api.OK || !module.Same(m, again) {
			t.Fatal(text, err)
		}
		if twice, _ := module.Print(again); twice != text {
			t.Fatal(text, twice)
		}
	}
}

func TestAnyTextIsAnswered(t *testing.T) {
	rnd := rand.New(rand.NewSource(2))
	bits := strings.SplitAfter(whole, " ")
	for range 5000 {
		text := "module m\n"
		for range rnd.Intn(12) {
			text += bits[rnd.Intn(len(bits))]
		}
		m, err, at := module.Parse(text)
		if at < 0 || at > len(text) || err == api.OK != (m.Name != "") {
			t.Fatal(text, err, at)
		}
		if err == api.OK && !module.Valid(m) {
			t.Fatal(text)
		}
	}
}
