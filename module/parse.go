package module

import (
	"syntagm/api"
	"syntagm/word"
)

// fault is what a reader that fails panics with.
type fault struct {
	err api.Errno
	at  int
}

// reader reads a module's words, line by line.
type reader struct {
	words []word.Word // what is left: the last one is an End
	begin word.Word   // the word that begins the line
	m     api.Module
	many  bool // whether there is too much of something in the line
	start bool // whether a start was told
}

// Parse is the module that a text is.
func Parse(text string) (api.Module, api.Errno, int) {
	words, err, at := word.Words(text)
	if err != api.OK {
		return api.Module{}, err, at
	}
	if len(words) == 0 {
		return api.Module{}, api.ErrForm, len(text)
	}
	r := &reader{words: words}
	return r.whole()
}

// whole reads all lines, or tells what is wrong, and where.
func (r *reader) whole() (m api.Module, err api.Errno, at int) {
	defer func() {
		if x := recover(); x != nil {
			f, ok := x.(fault)
			if !ok {
				panic(x)
			}
			m, err, at = api.Module{}, f.err, f.at
		}
	}()
	r.first()
	for len(r.words) > 0 {
		r.line()
	}
	return r.m, api.OK, 0
}

func (r *reader) fail(err api.Errno, w word.Word) { panic(fault{err, w.At}) }

// lines are the readers of lines, by the words that begin them.
func lines() map[string]func(*reader) {
	return map[string]func(*reader){
		"import": (*reader).importLine,
		"term":   (*reader).termLine,
		"over":   (*reader).overLine,
		"rule":   (*reader).ruleLine,
		"change": (*reader).changeLine,
		"remove": (*reader).removeLine,
		"start":  (*reader).startLine,
	}
}

func (r *reader) first() {
	if w := r.words[0]; w.Kind != word.Name || w.Text != "module" {
		r.fail(api.ErrForm, w)
	}
	r.take(word.Name)
	r.m.Name = r.name()
	r.take(word.End)
}

func (r *reader) line() {
	r.begin = r.words[0]
	read := lines()[r.begin.Text]
	if r.begin.Kind != word.Name || read == nil {
		r.fail(api.ErrForm, r.begin)
	}
	r.take(word.Name)
	read(r)
	r.take(word.End)
	if r.many {
		r.fail(api.ErrMany, r.begin)
	}
}

// take is the word that comes, passed; it must be of a kind.
func (r *reader) take(kind word.Kind) word.Word {
	w := r.words[0]
	if w.Kind != kind {
		r.fail(api.ErrForm, w)
	}
	r.words = r.words[1:]
	return w
}

// comes tells whether a word comes, and passes it.
func (r *reader) comes(kind word.Kind, text string) bool {
	if w := r.words[0]; w.Kind != kind || w.Text != text {
		return false
	}
	r.words = r.words[1:]
	return true
}

func (r *reader) mark(text string) {
	if !r.comes(word.Mark, text) {
		r.fail(api.ErrForm, r.words[0])
	}
}

func (r *reader) name() string { return r.take(word.Name).Text }

// no tells that there may be no more than most of something in the line.
func (r *reader) no(count, most int) { r.many = r.many || count > most }

func (r *reader) importLine() {
	i := api.Import{Module: r.name()}
	for r.words[0].Kind == word.Name {
		from := r.name()
		r.mark("=")
		i.Names = append(i.Names, [2]string{from, r.name()})
	}
	r.m.Imports = append(r.m.Imports, i)
	r.no(len(i.Names), mostNames)
	r.no(len(r.m.Imports), mostLines)
}

func (r *reader) termLine() {
	t := api.Term{Name: r.name(), Regex: r.take(word.Regex).Text}
	t.Layout = r.comes(word.Name, "layout")
	if r.comes(word.Name, "class") {
		t.Class = r.take(word.Number).N
	}
	r.m.Terms = append(r.m.Terms, t)
	r.no(len(r.m.Terms), mostLines)
}

func (r *reader) overLine() {
	r.m.Over = append(r.m.Over, [2]string{r.name(), r.name()})
	r.no(len(r.m.Over), mostLines)
}

func (r *reader) ruleLine() {
	rule := api.Rule{Label: r.name(), Sort: r.symbol(0)}
	r.mark("=")
	rule.Right = r.symbols()
	if r.comes(word.Mark, ";") {
		rule.Class = r.take(word.Number).N
	}
	r.m.Rules = append(r.m.Rules, rule)
	r.no(len(r.m.Rules), mostRules)
}

func (r *reader) changeLine() {
	c := api.Change{Kind: api.ChangeRight, Label: r.name()}
	r.mark("=")
	c.Right = r.symbols()
	r.change(c)
}

func (r *reader) removeLine() {
	r.change(api.Change{Kind: api.ChangeRemove, Label: r.name()})
}

func (r *reader) change(c api.Change) {
	r.m.Changes = append(r.m.Changes, c)
	r.no(len(r.m.Changes), mostLines)
}

func (r *reader) startLine() {
	if r.start {
		r.fail(api.ErrForm, r.begin)
	}
	r.start = true
	r.m.Start = r.name()
}

func (r *reader) symbols() []api.Name {
	var l []api.Name
	for r.words[0].Kind == word.Name {
		l = append(l, r.symbol(0))
	}
	r.no(len(l), api.MaxRight)
	return l
}

func (r *reader) symbol(deep int) api.Name {
	n := api.Name{Of: r.name()}
	if r.comes(word.Mark, "(") {
		n.Arg = []api.Name{r.symbol(deep + 1)}
		r.mark(")")
	}
	r.no(deep, mostDeep)
	return n
}
