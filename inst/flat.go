package inst

import (
	"maps"
	"slices"

	"syntagm/api"
	"syntagm/module"
	"syntagm/parts"
	"syntagm/rename"
)

// fault is what whoever fails panics with.
type fault struct{ err api.Errno }

func fail(err api.Errno) { panic(fault{err}) }

// production is one whose symbols have their names yet.
type production struct {
	sort  string
	right []api.Name
	class int
}

// maker makes the productions of rules.
type maker struct {
	x     rename.Items
	terms map[string]int        // terminals' places
	rules map[string][]api.Rule // of each sort, by Labels
	sorts map[string]api.Name   // those that are needed, by their names
	queue []api.Name            // those with an argument whose productions are not made
	prods map[string]production // by their Labels
}

// Flat is the flat grammar of what modules declare.
func Flat(x rename.Items, start string) (api.Grammar, api.Errno) { return flat(x, start) }

// flat is Flat: who fails while it is made panics.
func flat(x rename.Items, start string) (g api.Grammar, err api.Errno) {
	defer func() {
		if r := recover(); r != nil {
			f, ok := r.(fault)
			if !ok {
				panic(r)
			}
			g, err = api.Grammar{}, f.err
		}
	}()
	m := newMaker(x)
	m.checkSorts()
	m.checkRest(start)
	for _, r := range m.x.Rules {
		if len(r.Sort.Arg) == 0 {
			m.produce(r, r.Sort, r.Label)
		}
	}
	each(m.next, func(sort api.Name) {
		for _, r := range m.rules[sort.Of] {
			m.produce(r, sort, r.Label+"("+module.Show(sort.Arg[0])+")")
		}
	})
	return m.grammar(start), api.OK
}

func newMaker(x rename.Items) *maker {
	x, err := rename.Norm(x)
	if err != api.OK {
		fail(err)
	}
	m := &maker{x: x, terms: map[string]int{}, rules: map[string][]api.Rule{}, sorts: map[string]api.Name{}, prods: map[string]production{}}
	for i, t := range x.Terms {
		m.terms[t.Name] = i
	}
	for _, r := range x.Rules {
		m.rules[r.Sort.Of] = append(m.rules[r.Sort.Of], r)
	}
	return m
}

// checkSorts checks that each name is one thing, and each sort has an argument always, or never.
func (m *maker) checkSorts() {
	for _, r := range m.x.Rules {
		if _, both := m.terms[r.Sort.Of]; both {
			fail(api.ErrClash)
		}
	}
	for _, r := range m.x.Rules {
		arg := r.Sort.Arg
		if len(arg) > 1 || len(arg) == 1 && len(arg[0].Arg) > 0 || len(arg) != m.arity(r.Sort.Of) {
			fail(api.ErrArity)
		}
	}
}

// arity is how many arguments a sort has; none of what is no sort.
func (m *maker) arity(name string) int {
	if l := m.rules[name]; len(l) > 0 {
		return len(l[0].Sort.Arg)
	}
	return 0
}

func (m *maker) checkRest(start string) {
	for _, pair := range m.x.Over {
		for _, name := range pair {
			if _, ok := m.terms[name]; !ok {
				fail(api.ErrNone)
			}
		}
	}
	if len(m.rules[start]) == 0 || m.arity(start) > 0 {
		fail(api.ErrStart)
	}
	if len(m.x.Terms) > api.MaxTerms {
		fail(api.ErrMany)
	}
}

// produce makes the production of a rule, of its sort with an argument, if it has one.
func (m *maker) produce(r api.Rule, sort api.Name, label string) {
	if _, taken := m.prods[label]; taken || !m.need(sort) {
		return
	}
	if len(m.prods) == api.MaxProds || len(r.Right) > api.MaxRight {
		fail(api.ErrMany)
	}
	p := production{sort: module.Show(sort), class: r.Class}
	for _, n := range r.Right {
		p.right = append(p.right, put(n, r.Sort.Arg, sort.Arg))
	}
	m.prods[label] = p
	for _, n := range p.right {
		m.check(n)
	}
}

// put is a symbol with an argument instead of a rule's own one.
func put(n api.Name, own, arg []api.Name) api.Name {
	if len(own) == 1 && n.Of == own[0].Of && len(n.Arg) == 0 {
		return parts.CopyName(arg[0])
	}
	out := api.Name{Of: n.Of}
	for _, a := range n.Arg {
		out.Arg = append(out.Arg, put(a, own, arg))
	}
	return out
}

// need tells that a sort is needed; false, if another one came to its name ahead of it.
func (m *maker) need(sort api.Name) bool {
	name := module.Show(sort)
	if other, ok := m.sorts[name]; ok {
		return parts.SameName(other, sort)
	}
	if len(m.sorts) == api.MaxSorts {
		fail(api.ErrMany)
	}
	m.sorts[name] = sort
	if len(sort.Arg) > 0 {
		m.queue = append(m.queue, sort)
	}
	return true
}

// next takes a sort from the queue.
func (m *maker) next() (api.Name, bool) {
	if len(m.queue) == 0 {
		return api.Name{}, false
	}
	sort := m.queue[0]
	m.queue = m.queue[1:]
	return sort, true
}

// each does something with all that comes next, also with what comes while it is done.
func each(next func() (api.Name, bool), do func(api.Name)) {
	for sort, ok := next(); ok; sort, ok = next() {
		do(sort)
	}
}

// check checks a symbol, from outside to inside, and tells which sorts it needs.
func (m *maker) check(n api.Name) {
	_, terminal := m.terms[n.Of]
	isSort := len(m.rules[n.Of]) > 0
	switch {
	case !terminal && !isSort:
		fail(api.ErrNone)
	case len(n.Arg) != m.arity(n.Of):
		fail(api.ErrArity)
	case deeper(n, api.MaxDeep):
		fail(api.ErrDeep)
	}
	if len(n.Arg) > 0 {
		m.need(n)
	}
	for _, a := range n.Arg {
		m.check(a)
	}
}

// deeper tells whether a symbol has arguments more than so deep.
func deeper(n api.Name, most int) bool {
	if most < 0 {
		return true
	}
	return slices.ContainsFunc(n.Arg, func(a api.Name) bool { return deeper(a, most-1) })
}

// grammar is the grammar of all that was made.
func (m *maker) grammar(start string) api.Grammar {
	g := api.Grammar{Terms: m.x.Terms, Sorts: slices.Sorted(maps.Keys(m.sorts))}
	for _, pair := range m.x.Over {
		g.Over = append(g.Over, [2]int{m.terms[pair[0]], m.terms[pair[1]]})
	}
	places := map[string]int{}
	for i, name := range g.Sorts {
		places[name] = i
	}
	for _, label := range slices.Sorted(maps.Keys(m.prods)) {
		p := m.prods[label]
		made := api.Prod{Label: label, Sort: places[p.sort], Class: p.class}
		for _, n := range p.right {
			if t, ok := m.terms[n.Of]; ok {
				made.Right = append(made.Right, api.Sym(t))
			} else {
				made.Right = append(made.Right, api.Sym(-1-places[module.Show(n)]))
			}
		}
		g.Prods = append(g.Prods, made)
	}
	g.Start = places[start]
	return g
}
