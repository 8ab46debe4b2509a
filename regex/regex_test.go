package regex_test

import (
	"math/rand"
	"reflect"
	"slices"
	"strings"
	"testing"

	"syntagm/api"
	"syntagm/regex"
)

func parsed(t *testing.T, text string) api.Regex {
	t.Helper()
	r, err := regex.Parse(text)
	if err != api.OK {
		t.Fatalf("Parse(%q): %v", text, err)
	}
	return r
}

func one(l string) api.Regex {
	r := api.Regex{Kind: api.RegexBytes}
	for i := range len(l) {
		r.Bytes[l[i]/64] |= 1 << (l[i] % 64)
	}
	return r
}

func of(kind api.RegexKind, kids ...api.Regex) api.Regex { return api.Regex{Kind: kind, Kids: kids} }

// cut is what the document says of matching, word by word.
func cut(r api.Regex, s string) bool {
	switch r.Kind {
	case api.RegexEmpty:
		return s == ""
	case api.RegexBytes:
		return len(s) == 1 && regex.Has(r, s[0])
	case api.RegexCat:
		if len(r.Kids) == 0 {
			return s == ""
		}
		for i := 0; i <= len(s); i++ {
			if cut(r.Kids[0], s[:i]) && cut(of(api.RegexCat, r.Kids[1:]...), s[i:]) {
				return true
			}
		}
		return false
	case api.RegexAlt:
		for _, kid := range r.Kids {
			if cut(kid, s) {
				return true
			}
		}
		return false
	case api.RegexStar:
		for i := 1; i <= len(s); i++ {
			if len(r.Kids) > 0 && cut(r.Kids[0], s[:i]) && cut(r, s[i:]) {
				return true
			}
		}
		return s == ""
	}
	return false
}

func some(rnd *rand.Rand, deep int) api.Regex {
	k := rnd.Intn(8)
	if deep == 0 {
		k = rnd.Intn(3)
	}
	kids := func() []api.Regex {
		var l []api.Regex
		for range rnd.Intn(4) {
			l = append(l, some(rnd, deep-1))
		}
		return l
	}
	switch k {
	case 0, 1:
		return one([]string{"a", "b", "ab", "c", ""}[rnd.Intn(5)])
	case 2:
		return api.Regex{Kind: []api.RegexKind{api.RegexEmpty, 9, -1}[rnd.Intn(3)]}
	case 3, 4:
		return of(api.RegexCat, kids()...)
	case 5:
		return of(api.RegexAlt, kids()...)
	}
	return of(api.RegexStar, kids()...)
}

func words(most int) []string {
	l := []string{""}
	for from := 0; len(l[from]) < most; from++ {
		for _, b := range "abc" {
			l = append(l, l[from]+string(b))
		}
	}
	return l
}

func TestMatchIsWhatTheDocumentSays(t *testing.T) {
	rnd := rand.New(rand.NewSource(1))
	all := words(4)
	for range 2000 {
		r := some(rnd, 3)
		for _, s := range all {
			if got, want := regex.Match(r, s), cut(r, s); got != want {
				t.Fatalf("Match(%s, %q) = %v", regex.Show(r), s, got)
			}
		}
		if regex.Nullable(r) != cut(r, "") {
			t.Fatalf("Nullable(%s)", regex.Show(r))
		}
	}
}

func TestWhatIsShownMatchesTheSame(t *testing.T) {
	rnd := rand.New(rand.NewSource(2))
	all := words(4)
	tried := 0
	for range 3000 {
		r := some(rnd, 2)
		text := regex.Show(r)
		if len(text) > api.MaxRegex {
			continue
		}
		tried++
		again := parsed(t, text)
		for _, s := range all {
			if regex.Match(r, s) != regex.Match(again, s) {
				t.Fatalf("%s: %q", text, s)
			}
		}
	}
	if tried < 500 {
		t.Error(tried)
	}
}

func TestShow(t *testing.T) {
	a := one("a")
	for _, x := range []struct {
		r    api.Regex
		want string
	}{
		{api.Regex{}, "()"},
		{one("ba\xff\x00"), `[\x00\x61\x62\xff]`},
		{one(""), "[]"},
		{of(api.RegexCat), "()"},
		{of(api.RegexCat, a, api.Regex{}), `([\x61]())`},
		{of(api.RegexAlt), "[]"},
		{of(api.RegexAlt, a), `([\x61])`},
		{of(api.RegexAlt, a, api.Regex{}), `([\x61]|())`},
		{of(api.RegexStar), "()*"},
		{of(api.RegexStar, a, a), `[\x61]*`},
		{of(api.RegexStar, of(api.RegexStar, a)), `[\x61]**`},
		{api.Regex{Kind: 7, Bytes: a.Bytes, Kids: []api.Regex{a}}, "[]"},
		{api.Regex{Kind: -3, Bytes: a.Bytes}, "[]"},
	} {
		if got := regex.Show(x.r); got != x.want {
			t.Errorf("%s, want %s", got, x.want)
		}
	}
}

func TestHas(t *testing.T) {
	r := one("\x00?@\x7f\x80\xff")
	for n := range 256 {
		want := strings.IndexByte("\x00?@\x7f\x80\xff", byte(n)) >= 0
		if regex.Has(r, byte(n)) != want {
			t.Error(n)
		}
	}
	r.Kind = api.RegexStar
	if regex.Has(r, 0) {
		t.Error("only RegexBytes has bytes")
	}
}

func same(a, b api.Regex) bool {
	return a.Kind == b.Kind && a.Bytes == b.Bytes && slices.EqualFunc(a.Kids, b.Kids, same)
}

func TestParseBuilds(t *testing.T) {
	a, b, e := one("a"), one("b"), api.Regex{}
	cat, alt, star := api.RegexCat, api.RegexAlt, api.RegexStar
	for text, want := range map[string]api.Regex{
		"":          e,
		"()":        e,
		"a":         a,
		"(a)":       a,
		"((a)b)":    of(cat, a, b),
		"ab":        of(cat, a, b),
		"(ab)a":     of(cat, of(cat, a, b), a),
		"a|b":       of(alt, a, b),
		"a|":        of(alt, a, e),
		"|":         of(alt, e, e),
		"(|a)b":     of(cat, of(alt, e, a), b),
		"a*":        of(star, a),
		"a**":       of(star, of(star, a)),
		"a+":        of(cat, a, of(star, a)),
		"a?":        of(alt, a, e),
		"a?*":       of(star, of(alt, a, e)),
		"ab*":       of(cat, a, of(star, b)),
		"ab|b":      of(alt, of(cat, a, b), b),
		"[]":        one(""),
		"[ba]":      one("ab"),
		"[a-c]":     one("abc"),
		"[a-a]":     a,
		"[a^[(.*|]": one("a^[(.*|"),
		`[\]\-\\]`:  one(`]-\`),
		`[\x61-c]`:  one("abc"),
		`[a-\x63d]`: one("abcd"),
		`\n\t\r\s`:  of(cat, one("\n"), one("\t"), one("\r"), one(" ")),
		`\x00`:      one("\x00"),
		`\xaf`:      one("\xaf"),
		`\x09`:      one("\t"),
		`\xf0`:      one("\xf0"),
		`\_`:        one("_"),
		`\*`:        one("*"),
		"\\\xe9":    one("\xe9"),
		"\\\n":      one("\n"),
		"^":         one("^"),
		"-{/\n":     of(cat, one("-"), one("{"), one("/"), one("\n")),
		"é":         of(cat, one("\xc3"), one("\xa9")),
	} {
		r, err := regex.Parse(text)
		if err != api.OK || !same(r, want) {
			t.Errorf("Parse(%q) = %s, %v; want %s", text, regex.Show(r), err, regex.Show(want))
		}
	}
	for text, not := range map[string]string{".": "\n", "[^]": "", "[^a-c]": "abc", "[^^]": "^", `[^\x00-\x7f]`: string(sevenBits())} {
		r := parsed(t, text)
		for n := range 256 {
			if regex.Has(r, byte(n)) == (strings.IndexByte(not, byte(n)) >= 0) {
				t.Errorf("%s: %d", text, n)
			}
		}
	}
}

func sevenBits() []byte {
	var l []byte
	for n := range 128 {
		l = append(l, byte(n))
	}
	return l
}

func TestParseFails(t *testing.T) {
	for _, text := range []string{"*", "+a", "?", "a|*", "(", ")", "a)", "(a", "(a))", "]", "a]", "[", "[a", "[^", "[a-", "[a-]", "[-a]", "[a-b-c]", "[b-a]", `\`, `[\`, `\a`, `\A`, `\0`, `\z`, `\Z`, `\9`, `\x`, `\x4`, `\x4g`, `\xAB`, `[\x4]`, `[\q]`, "()(", "(*)", strings.Repeat("(", 200)} {
		if r, err := regex.Parse(text); err != api.ErrForm || !reflect.DeepEqual(r, api.Regex{}) {
			t.Errorf("Parse(%q) = %s, %v", text, regex.Show(r), err)
		}
	}
}

func TestParseOfTooMuch(t *testing.T) {
	if r, err := regex.Parse(strings.Repeat("a", 201)); err != api.ErrMany || !reflect.DeepEqual(r, api.Regex{}) {
		t.Error(err)
	}
	if _, err := regex.Parse(strings.Repeat("*", 201)); err != api.ErrMany {
		t.Error(err)
	}
	parsed(t, strings.Repeat("a", 200))
	// Sizes of a, with + behind it once, twice ..: 4, 10, 22, 46, 94, 190, 382, 766.
	parsed(t, "a+++++++")
	for text, want := range map[string]api.Errno{
		"a++++++++":                         api.ErrMany,
		"a++++++++)":                        api.ErrMany,
		")a++++++++":                        api.ErrForm,
		"(a+++++++a++++++)":                 api.ErrMany, // an atom, at its end
		"(a+++++++a++++++":                  api.ErrForm, // never an atom
		"a+++++++a++++++":                   api.ErrMany, // in the end the whole
		"a+++++++a++++++]":                  api.ErrForm,
		"a+++++++" + rep("a", 117):          api.OK, // 1 + 382 + 117
		"a+++++++" + rep("a", 118):          api.ErrMany,
		"(a+++++++" + rep("a", 117) + ")":   api.OK,
		"(a+++++++" + rep("a", 118) + ")":   api.ErrMany,
		"(a+++++++" + rep("a", 115) + ")*":  api.OK,
		"(a+++++++" + rep("a", 117) + ")*":  api.ErrMany,
		"(a+++++++" + rep("a", 117) + ")*)": api.ErrMany,
	} {
		if _, err := regex.Parse(text); err != want {
			t.Errorf("Parse(%q): %v, want %v", text, err, want)
		}
	}
}

func rep(s string, n int) string { return strings.Repeat(s, n) }

func TestNoTwoListsShareMemory(t *testing.T) {
	r := parsed(t, "(ab)+")
	r.Kids[0].Kids[0] = one("x")
	if !regex.Match(r, "xbab") || regex.Match(r, "abab") {
		t.Error("what + repeats is another list")
	}
}

func TestExample(t *testing.T) {
	r := parsed(t, "a(b|c)*")
	if !regex.Match(r, "a") || !regex.Match(r, "abc") || regex.Match(r, "b") {
		t.Error("a(b|c)*")
	}
}

func TestHardMatchesEnd(t *testing.T) {
	long := rep("a", 500)
	for _, text := range []string{"(a*)*b", "((a?)*a*)*b", "(a|aa)*b", "(((a*)*)*)*b", "a?a?a?a?a?a?(a*a*)*b"} {
		r := parsed(t, text)
		if regex.Match(r, long) || !regex.Match(r, long+"b") {
			t.Error(text)
		}
	}
	deep := one("a")
	for range 200 {
		deep = of(api.RegexStar, deep)
	}
	if !regex.Match(deep, "aaa") || regex.Match(deep, "ab") || !regex.Nullable(deep) || len(regex.Show(deep)) != 206 {
		t.Error("deep")
	}
}

func TestArgumentsAreLeft(t *testing.T) {
	rnd := rand.New(rand.NewSource(3))
	for range 300 {
		r := some(rnd, 3)
		before := regex.Show(r)
		regex.Match(r, "abca")
		regex.Nullable(r)
		if regex.Show(r) != before {
			t.Fatal(before)
		}
	}
}
