package module

import (
	"strconv"
	"strings"

	"syntagm/api"
	"syntagm/word"
)

// Print is a module's text.
func Print(m api.Module) (string, api.Errno) {
	if !wellFormed(m) {
		return "", api.ErrArg
	}
	s := text(m)
	if len(s) > api.MaxText {
		return "", api.ErrArg
	}
	return s, api.OK
}

// text is the text of a module that is well formed.
func text(m api.Module) string {
	var out strings.Builder
	line := func(words ...string) {
		out.WriteString(strings.Join(words, " "))
		out.WriteByte('\n')
	}
	line("module", m.Name)
	for _, i := range m.Imports {
		words := []string{"import", i.Module}
		for _, p := range i.Names {
			words = append(words, p[0], "=", p[1])
		}
		line(words...)
	}
	for _, t := range m.Terms {
		line(termWords(t)...)
	}
	for _, p := range m.Over {
		line("over", p[0], p[1])
	}
	for _, r := range m.Rules {
		words := append([]string{"rule", r.Label, Show(r.Sort), "="}, shown(r.Right)...)
		if r.Class != 0 {
			words = append(words, ";", strconv.Itoa(r.Class))
		}
		line(words...)
	}
	for _, c := range m.Changes {
		if c.Kind == api.ChangeRemove {
			line("remove", c.Label)
		} else {
			line(append([]string{"change", c.Label, "="}, shown(c.Right)...)...)
		}
	}
	if m.Start != "" {
		line("start", m.Start)
	}
	return out.String()
}

func termWords(t api.Term) []string {
	regex, _ := word.Quote(t.Regex)
	words := []string{"term", t.Name, regex}
	if t.Layout {
		words = append(words, "layout")
	}
	if t.Class != 0 {
		words = append(words, "class", strconv.Itoa(t.Class))
	}
	return words
}
