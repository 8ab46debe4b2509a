package word_test

import (
	"math/rand"
	"slices"
	"strings"
	"testing"

	"syntagm/api"
	"syntagm/word"
)

func TestExample(t *testing.T) {
	l, err, at := word.Words("term if /if/ # a word")
	want := []word.Word{{word.Name, "term", 0, 0}, {word.Name, "if", 0, 5}, {word.Regex, "if", 0, 8}, {word.End, "", 0, 21}}
	if !slices.Equal(l, want) || err != api.OK || at != 0 {
		t.Error(l, err, at)
	}
}

func TestKindsAreCounted(t *testing.T) {
	if word.Name != 0 || word.Number != 1 || word.Mark != 2 || word.Regex != 3 || word.End != 4 {
		t.Error("kinds")
	}
}

func TestWords(t *testing.T) {
	for text, want := range map[string][]word.Word{
		"":              nil,
		" \t\r":         nil,
		"\n\n":          nil,
		"# a\n#b":       nil,
		"a":             {{word.Name, "a", 0, 0}, {word.End, "", 0, 1}},
		"a\n":           {{word.Name, "a", 0, 0}, {word.End, "", 0, 1}},
		"\n\na\n\n\nb ": {{word.Name, "a", 0, 2}, {word.End, "", 0, 3}, {word.Name, "b", 0, 6}, {word.End, "", 0, 8}},
		"a#b\nc":        {{word.Name, "a", 0, 0}, {word.End, "", 0, 3}, {word.Name, "c", 0, 4}, {word.End, "", 0, 5}},
		"a #\n #\n b":   {{word.Name, "a", 0, 0}, {word.End, "", 0, 3}, {word.Name, "b", 0, 8}, {word.End, "", 0, 9}},
		"12ab_3Z 007":   {{word.Number, "12", 12, 0}, {word.Name, "ab_3Z", 0, 2}, {word.Number, "007", 7, 8}, {word.End, "", 0, 11}},
		"_":             {{word.Name, "_", 0, 0}, {word.End, "", 0, 1}},
		"=();,":         {{word.Mark, "=", 0, 0}, {word.Mark, "(", 0, 1}, {word.Mark, ")", 0, 2}, {word.Mark, ";", 0, 3}, {word.Mark, ",", 0, 4}, {word.End, "", 0, 5}},
		"//":            {{word.Regex, "", 0, 0}, {word.End, "", 0, 2}},
		`/a\/b/`:        {{word.Regex, "a/b", 0, 0}, {word.End, "", 0, 6}},
		`/\\/`:          {{word.Regex, `\\`, 0, 0}, {word.End, "", 0, 4}},
		`/\\\//`:        {{word.Regex, `\\/`, 0, 0}, {word.End, "", 0, 6}},
		`/\n#é/x`:       {{word.Regex, `\n#é`, 0, 0}, {word.Name, "x", 0, 7}, {word.End, "", 0, 8}},
		"/a\r\xff/":     {{word.Regex, "a\r\xff", 0, 0}, {word.End, "", 0, 5}},
		"999999999":     {{word.Number, "999999999", 999999999, 0}, {word.End, "", 0, 9}},
		"# é\xff\na":    {{word.Name, "a", 0, 6}, {word.End, "", 0, 7}},
	} {
		l, err, at := word.Words(text)
		if !slices.Equal(l, want) || err != api.OK || at != 0 {
			t.Errorf("Words(%q) = %v, %v, %d", text, l, err, at)
		}
	}
}

func TestWordsFail(t *testing.T) {
	a := []word.Word{{word.Name, "a", 0, 0}}
	for _, x := range []struct {
		text string
		l    []word.Word
		err  api.Errno
		at   int
	}{
		{"a !", a, api.ErrForm, 2},
		{"!", nil, api.ErrForm, 0},
		{"a é", a, api.ErrForm, 2},
		{"aé", a, api.ErrForm, 1},
		{"a\x00", a, api.ErrForm, 1},
		{"a /b", a, api.ErrForm, 2},
		{"a /b\n/", a, api.ErrForm, 2},
		{"a /b\\", a, api.ErrForm, 2},
		{"a /b\\/", a, api.ErrForm, 2},
		{"a /b\\\n/", a, api.ErrForm, 2},
		{"a " + strings.Repeat("b", 33), a, api.ErrMany, 2},
		{"a 1234567890", a, api.ErrMany, 2},
		{"a 0000000000 !", a, api.ErrMany, 2},
		{"a ! 1234567890", a, api.ErrForm, 2},
		{"a\n!", append(slices.Clone(a), word.Word{word.End, "", 0, 1}), api.ErrForm, 2},
		{strings.Repeat(" ", 20001), nil, api.ErrMany, 0},
		{"!" + strings.Repeat(" ", 20000), nil, api.ErrMany, 0},
	} {
		l, err, at := word.Words(x.text)
		if !slices.Equal(l, x.l) || err != x.err || at != x.at {
			t.Errorf("Words(%.40q) = %v, %v, %d", x.text, l, err, at)
		}
	}
	if _, err, _ := word.Words("a" + strings.Repeat(" ", 19999)); err != api.OK {
		t.Error("20000 bytes may be")
	}
	if l, err, _ := word.Words(strings.Repeat("b", 32)); err != api.OK || len(l) != 2 {
		t.Error("32 bytes may be")
	}
}

func TestIsName(t *testing.T) {
	for _, s := range []string{"a", "_", "z", "A", "Z9_", "azAZ09", "module", strings.Repeat("x", 32)} {
		if !word.IsName(s) {
			t.Error(s)
		}
	}
	for _, s := range []string{"", "9a", "a b", "a-b", "é", "aé", "a\x00", "a\xff", " a", "a\n", strings.Repeat("x", 33)} {
		if word.IsName(s) {
			t.Errorf("%q", s)
		}
	}
}

func TestQuote(t *testing.T) {
	for s, want := range map[string]string{"": "//", "a": "/a/", "a/b": `/a\/b/`, `\\`: `/\\/`, `\\/`: `/\\\//`, `\n`: `/\n/`, "\r#\xff": "/\r#\xff/"} {
		if got, ok := word.Quote(s); got != want || !ok {
			t.Errorf("Quote(%q) = %q, %v", s, got, ok)
		}
	}
	for _, s := range []string{"\n", "a\nb", `\`, `a\`, `\\\`, `\/`, `a\/b`, "\\\n", `\\\/`} {
		if got, ok := word.Quote(s); got != "" || ok {
			t.Errorf("Quote(%q) = %q, %v", s, got, ok)
		}
	}
}

func TestWhatIsQuotedIsReadAgain(t *testing.T) {
	rnd := rand.New(rand.NewSource(1))
	quoted := 0
	for range 5000 {
		s := ""
		for range rnd.Intn(6) {
			s += string(`\/ab#` + "\n")[rnd.Intn(6):][:1]
		}
		text, ok := word.Quote(s)
		if ok {
			quoted++
			l, err, _ := word.Words(text)
			if err != api.OK || len(l) != 2 || l[0] != (word.Word{word.Regex, s, 0, 0}) {
				t.Fatalf("%q: %v", s, l)
			}
		}
		// What is read is quoted again.
		if l, err, _ := word.Words("/" + s + "/"); err == api.OK && len(l) == 2 && l[0].Kind == word.Regex {
			if _, ok := word.Quote(l[0].Text); !ok {
				t.Fatalf("%q is read, and not quoted", l[0].Text)
			}
		}
	}
	if quoted < 1000 {
		t.Error(quoted)
	}
}

func TestWordsStandInOrder(t *testing.T) {
	rnd := rand.New(rand.NewSource(2))
	const some = "ab_1 =();,/\\#\n\t!"
	for range 5000 {
		text := ""
		for range rnd.Intn(20) {
			text += string(some[rnd.Intn(len(some))])
		}
		l, err, at := word.Words(text)
		last := 0
		for i, w := range l {
			long := len(w.Text)
			if w.Kind == word.Regex {
				long += 2 // at least
			}
			if w.At < last || w.Kind != word.End && w.At+long > len(text) || w.Kind != word.Number && w.N != 0 {
				t.Fatalf("%q: %v", text, l)
			}
			if w.Kind == word.End && (i == 0 || l[i-1].Kind == word.End || w.Text != "") {
				t.Fatalf("%q: %v", text, l)
			}
			last = w.At + long
		}
		if err != api.OK && at < last || err == api.OK && (at != 0 || len(l) > 0 && l[len(l)-1].Kind != word.End) {
			t.Fatalf("%q: %v, %v, %d", text, l, err, at)
		}
	}
}
