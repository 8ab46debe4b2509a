package compose_test

import (
	"math/rand"
	"reflect"
	"slices"
	"strconv"
	"strings"
	"testing"

	"syntagm/api"
	"syntagm/compose"
	"syntagm/inst"
	"syntagm/module"
	"syntagm/rename"
	"syntagm/table"
)

// items reads the declarations of a module's lines; of one line `a b c` the terminals.
func items(t *testing.T, lines ...string) rename.Items {
	t.Helper()
	m, err, at := module.Parse("module m\n" + strings.Join(lines, "\n"))
	if err != api.OK {
		t.Fatal(lines, err, at)
	}
	return rename.Items{Terms: m.Terms, Over: m.Over, Rules: m.Rules}
}

func terms(names string) []string {
	var l []string
	for _, n := range strings.Fields(names) {
		l = append(l, "term "+n+" /"+n+"/")
	}
	return l
}

func with(names string, lines ...string) []string { return append(terms(names), lines...) }

// host is E = hook, H = open E close, S = H S, S = nothing.
func host() []string {
	return with("hook open close", "rule e E = hook", "rule h H = open E close", "rule s S = H S", "rule t S =")
}

func plus(l []string, more ...string) []string { return append(slices.Clone(l), more...) }

// ext is E = begin X end, X = left E right X, X = nothing.
func ext(p string) []string {
	return with(p+"begin "+p+"end "+p+"left "+p+"right",
		"rule "+p+"e E = "+p+"begin "+p+"X "+p+"end",
		"rule "+p+"x "+p+"X = "+p+"left E "+p+"right "+p+"X",
		"rule "+p+"y "+p+"X =")
}

func TestExample(t *testing.T) {
	h, x, y := items(t, host()...), items(t, ext("x")...), items(t, ext("y")...)
	if compose.Check(h, "S", x) != api.OK || compose.Check(h, "S", y) != api.OK {
		t.Error(compose.Check(h, "S", x))
	}
	g, err := compose.Whole(h, "S", []rename.Items{x, y})
	if err != api.OK {
		t.Fatal(err)
	}
	if _, err := table.Build(g); err != api.OK {
		t.Error(err)
	}
	if compose.Hook(h, "E") != "hook" {
		t.Error(compose.Hook(h, "E"))
	}
	if a, b := compose.Hold(h, "E"); a != "open" || b != "close" {
		t.Error(a, b)
	}
}

func TestHook(t *testing.T) {
	for i, x := range []struct {
		lines []string
		sort  string
		want  string
	}{
		{with("a b", "rule x E = a"), "E", "a"},
		{with("a b", "rule x E = b", "rule y E = a"), "E", "a"},
		{with("a b", "rule x E = a", "rule y T = a"), "E", ""}, // not sole
		{with("a b", "rule x E = a", "rule y T = a b a", "rule z E = b c"), "E", ""},
		{with("a b", "rule x E = a", "rule y T = b", "rule z E = b"), "E", "a"},
		{with("a b", "rule x E = a b"), "E", ""},
		{with("a b", "rule x E ="), "E", ""},
		{with("a", "rule x E = T", "rule y T = a"), "E", ""},
		{with("a", "rule x E = T", "rule y T = a"), "T", "a"},
		{with("a", "rule x E = a"), "none", ""},
		{[]string{"term a /a/", "term a /b/", "rule x E = a"}, "E", ""},
	} {
		if got := compose.Hook(items(t, x.lines...), x.sort); got != x.want {
			t.Error(i, got)
		}
	}
}

func TestHold(t *testing.T) {
	for i, x := range []struct {
		lines []string
		a, b  string
	}{
		{with("a b", "rule e E =", "rule x S = a E b"), "a", "b"},
		{with("a b", "rule e E = a E b"), "a", "b"},
		{with("a b c d", "rule e E =", "rule y S = a E b", "rule x S = c E d"), "c", "d"}, // by Label
		{with("a b c d", "rule e E =", "rule y S = a E b", "rule x S = c E c"), "a", "b"},
		{with("a b", "rule x S = a E b"), "", ""},                                 // E is the Sort of no rule
		{with("a b", "rule e E =", "rule x S = a E a"), "", ""},                   // one terminal
		{with("a b", "rule e E =", "rule x S = a E b", "rule y S = a"), "", ""},   // not sole
		{with("a b", "rule e E =", "rule x S = a E b", "rule y S = b b"), "", ""}, // not sole
		{with("a b", "rule e E =", "rule x S = a E"), "", ""},                     // two symbols
		{with("a b", "rule e E =", "rule x S = a E b E"), "", ""},                 // four
		{with("a b", "rule e E =", "rule f F =", "rule x S = a F b"), "", ""},     // another sort
		{with("a", "rule e E =", "rule x S = a E E"), "", ""},                     // no terminal
		{with("a b", "rule e E =", "rule x S = a E(a) b"), "", ""},                // with an argument
		{with("a b", "rule e E =", "rule e E = a", "rule x S = a E b"), "", ""},   // a clash
		{with("a b c", "rule e E = c", "rule x S = a E b", "rule y S = c"), "a", "b"},
	} {
		if a, b := compose.Hold(items(t, x.lines...), "E"); a != x.a || b != x.b {
			t.Error(i, a, b)
		}
	}
}

func TestCheck(t *testing.T) {
	h := host()
	unreached := append(host(), with("q w v", "rule n N = q", "rule k K = w N v")...)
	held := append(host(), with("one two", "rule u S = one H two")...)
	ambiguous := with("a", "rule a S = S S", "rule b S = a")
	for i, x := range []struct {
		h, x []string
		want api.Errno
	}{
		{h, nil, api.OK},
		{h, ext("x"), api.OK},
		{plus(h, "term hook /x/"), ext("x"), api.ErrClash},
		{h, with("b", "term b /x/"), api.ErrClash},
		{plus(h, "rule l L(x) ="), append(ext("x"), "rule k K(y) ="), api.ErrArity},
		{plus(h, "rule l S = L(S)"), nil, api.ErrArity},
		{h, with("b e", "rule x E = b X(b) e"), api.ErrArity},
		{h, with("b e", "rule x E = b X e", "rule y X(a) ="), api.ErrArity},
		{plus(h, "rule l S = none"), with("hook"), api.ErrNone},
		{plus(h, "over hook none"), with("hook"), api.ErrNone},
		{ambiguous, with("a"), api.ErrLR},
		// 3
		{h, with("hook"), api.ErrClash}, // also where it is alike
		{h, with("e"), api.ErrClash},
		{h, with("S"), api.ErrClash},
		{h, with("b c", "rule e E = b X c", "rule y X ="), api.ErrClash},
		{h, with("b c", "rule S E = b X c", "rule y X ="), api.ErrClash},
		{h, with("b c", "rule open E = b X c", "rule y X ="), api.ErrClash},
		{h, with("b c X", "rule x E = b X c", "rule y X ="), api.ErrClash},
		// 4, bridges
		{h, with("b c", "rule x E = b X c", "rule y X = b"), api.ErrForm},
		{h, with("b c d", "rule x E = b X c", "rule y X = d", "rule z X = d d"), api.OK},
		{h, with("b c", "rule x E = b X b", "rule y X ="), api.ErrForm},
		{h, with("b c", "rule x E = b X", "rule y X ="), api.ErrForm},
		{h, with("b c", "rule x E = b X c b", "rule y X ="), api.ErrForm},
		{h, with("b c", "rule x E = b H c", "rule y X ="), api.ErrForm},
		{h, with("b c", "rule x E = open X c", "rule y X ="), api.ErrForm},
		{h, with("b c", "rule x E = b none c"), api.ErrForm},
		{h, with("b c", "rule x S = b X c", "rule y X ="), api.ErrForm}, // S has no hook
		{h, with("b c", "rule x H = b X c", "rule y X ="), api.ErrForm},
		{unreached, with("b c", "rule x N = b X c", "rule y X ="), api.ErrForm},
		{unreached, with("b c", "rule x E = b X c", "rule y X ="), api.OK},
		// 4, rules of its own
		{h, with("b c l", "rule x E = b X c", "rule y X = l E c"), api.ErrForm},
		{h, with("b c l r", "rule x E = b X c", "rule y X = l E r"), api.OK},
		{h, with("b c l r", "rule x E = b X c", "rule y X = l E r l"), api.ErrForm},
		{h, with("b c l r", "rule x E = b X c", "rule y X = l E l"), api.ErrForm},
		{h, with("b c l r", "rule x E = b X c", "rule y X = E r"), api.ErrForm},
		{h, with("b c l r", "rule x E = b X c", "rule y X = l E"), api.ErrForm},
		{h, with("b c l r", "rule x E = b X c", "rule y X = l S r"), api.ErrForm}, // S is not held
		{h, with("b c l r", "rule x E = b X c", "rule y X = l H r"), api.ErrForm},
		{held, with("b c l r", "rule x E = b X c", "rule y X = l H r"), api.OK},
		{unreached, with("b c l r", "rule x E = b X c", "rule y X = l N r"), api.ErrForm},
		{h, with("b c l r m", "rule x E = b X c", "rule y X = l E m E r"), api.ErrForm},
		{h, with("b c l r m n", "rule x E = b X c", "rule y X = m l E r X n", "rule z X ="), api.OK},
		{h, with("b c l r", "rule x E = b X c", "rule y X = hook"), api.ErrForm},
		{h, with("b c l r", "rule x E = b X c", "rule y X = none"), api.ErrForm},
		{h, with("b", "rule y X = b", "rule z X = X X"), api.OK}, // nobody comes to X
		// 5
		{h, with("b c d", "rule x E = b X c", "rule y X = X X", "rule z X = d"), api.ErrLR},
		{h, with("b c", "over b none"), api.ErrNone},
		{h, with("b c", "rule x E = b hooked c", "rule y hooked ="), api.OK},
		{h, []string{"term b /b/", "rule y hook = b"}, api.ErrClash}, // a sort of its own that is a terminal of the host's
	} {
		hi, xi := items(t, x.h...), items(t, x.x...)
		if got := compose.Check(hi, "S", xi); got != x.want {
			t.Errorf("%d %q: %v, want %v", i, x.x, got, x.want)
		}
		if !reflect.DeepEqual(hi, items(t, x.h...)) || !reflect.DeepEqual(xi, items(t, x.x...)) {
			t.Error(i, "an argument is changed")
		}
	}
	if got := compose.Check(items(t, h...), "none", items(t, "term hook /x/")); got != api.ErrStart {
		t.Error(got)
	}
}

func TestWhole(t *testing.T) {
	h, x, y := items(t, host()...), items(t, ext("x")...), items(t, ext("y")...)
	all, _ := rename.Union(h, x)
	all, _ = rename.Union(all, y)
	want, _ := inst.Flat(all, "S")
	for _, l := range [][]rename.Items{{x, y}, {y, x}, {x, y, x, h}} {
		if g, err := compose.Whole(h, "S", l); err != api.OK || !inst.Same(g, want) {
			t.Error(g, err)
		}
	}
	want, _ = inst.Flat(h, "S")
	if g, err := compose.Whole(h, "S", nil); err != api.OK || !inst.Same(g, want) {
		t.Error(g, err)
	}
	clash := items(t, "term hook /x/")
	for _, x := range []struct {
		h     rename.Items
		start string
		l     []rename.Items
		want  api.Errno
	}{
		{h, "none", []rename.Items{x, clash}, api.ErrClash},
		{h, "none", []rename.Items{x}, api.ErrStart},
		{items(t, "term a /a/", "term a /b/"), "none", nil, api.ErrClash},
	} {
		if g, err := compose.Whole(x.h, x.start, x.l); err != x.want || !reflect.DeepEqual(g, api.Grammar{}) {
			t.Error(g, err)
		}
	}
}

// someHost is a host of which E has a hook and is held, and some rules more.
func someHost(rnd *rand.Rand) []string {
	l := with("hook open close p q r", "rule e E = hook")
	sorts := []string{"S", "E", "T"}
	symbols := []string{"p", "q", "r", "S", "E", "T", "E", "T"}
	l = append(l, "rule h "+sorts[rnd.Intn(3)]+" = open E close")
	for i := range 2 + rnd.Intn(4) {
		line := "rule h" + strconv.Itoa(i) + " " + sorts[rnd.Intn(3)] + " ="
		for range rnd.Intn(4) {
			line += " " + symbols[rnd.Intn(len(symbols))]
		}
		l = append(l, line)
	}
	return l
}

// someExt is an extension such as Check asks it, but that it may have no table.
func someExt(rnd *rand.Rand, p string) []string {
	l := with(p + "u " + p + "v")
	sole := func() string {
		name := p + "t" + strconv.Itoa(len(l))
		l = append(l, terms(name)...)
		return name
	}
	own := func() string { return p + []string{"X", "Y"}[rnd.Intn(2)] }
	for i := range 1 + rnd.Intn(2) {
		rule := "rule " + p + "b" + strconv.Itoa(i) + " E = " + sole() + " "
		rule += own() + " "
		l = append(l, rule+sole())
	}
	for i := range 2 + rnd.Intn(4) {
		rule := "rule " + p + "r" + strconv.Itoa(i) + " " + p + []string{"X", "Y"}[i%2] + " ="
		for range rnd.Intn(3) {
			switch rnd.Intn(4) {
			case 0:
				rule += " " + sole() + " E "
				rule += sole()
			case 1:
				rule += " " + own()
			default:
				rule += " " + p + []string{"u", "v"}[rnd.Intn(2)]
			}
		}
		l = append(l, rule)
	}
	return l
}

// hasTable is the error of a grammar, or of its table.
func hasTable(g api.Grammar, err api.Errno) api.Errno {
	if err == api.OK {
		_, err = table.Build(g)
	}
	return err
}

func TestWhatIsCheckedAloneMayBePutTogether(t *testing.T) {
	rnd := rand.New(rand.NewSource(1))
	tried := 0
	for range 400 {
		hl := someHost(rnd)
		h := items(t, hl...)
		if hasTable(inst.Flat(h, "S")) != api.OK {
			continue
		}
		var fine []rename.Items
		var told [][]string
		for n := range 6 {
			lines := someExt(rnd, string(rune('i'+n)))
			x := items(t, lines...)
			if compose.Check(h, "S", x) == api.OK {
				fine = append(fine, x)
				told = append(told, lines)
			}
			if len(fine) == 3 {
				break
			}
		}
		if len(fine) < 2 {
			continue
		}
		tried++
		for _, l := range [][]rename.Items{fine, fine[:2], fine[1:]} {
			g, err := compose.Whole(h, "S", l)
			if hasTable(g, err) != api.OK {
				t.Fatalf("%q with %q: %v", hl, told, hasTable(g, err))
			}
		}
	}
	if tried < 20 {
		t.Error(tried)
	}
}
