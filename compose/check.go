package compose

import (
	"syntagm/api"
	"syntagm/inst"
	"syntagm/rename"
)

// pair is a host, and an extension of it.
type pair struct {
	host, ext part
	reached   map[string]int // the host's sorts that its start comes to
}

// Check tells whether an extension may be put together with a host, and others.
func Check(h rename.Items, start string, x rename.Items) api.Errno {
	host, err := newPart(h)
	if err != api.OK {
		return err
	}
	ext, err := newPart(x)
	if err != api.OK {
		return err
	}
	if host.hasArgs() || ext.hasArgs() {
		return api.ErrArity
	}
	if err := hasTable(inst.Flat(host.Items, start)); err != api.OK {
		return err
	}
	p := pair{host, ext, host.reached(start)}
	if p.clash() {
		return api.ErrClash
	}
	for _, r := range ext.Rules {
		if !p.fits(r) {
			return api.ErrForm
		}
	}
	return hasTable(Whole(host.Items, start, []rename.Items{ext.Items}))
}

// clash tells whether a terminal, or a rule, of the extension has a name that is taken.
func (p pair) clash() bool {
	taken := func(name string) bool {
		return p.host.isTerm(name) || p.host.isSort(name) || p.host.labels[name] > 0
	}
	for _, t := range p.ext.Terms {
		if taken(t.Name) || p.ext.isSort(t.Name) {
			return true
		}
	}
	for _, r := range p.ext.Rules {
		if taken(r.Label) {
			return true
		}
	}
	return false
}

// isOwn tells whether a sort is the extension's own.
func (p pair) isOwn(sort string) bool { return !p.host.isSort(sort) && p.ext.isSort(sort) }

// fits tells whether a rule of the extension is a bridge, or one of its own.
func (p pair) fits(r api.Rule) bool {
	names, _ := namesOf(r.Right)
	sort := r.Sort.Of
	bridge := func() bool {
		_, reached := p.reached[sort]
		return p.host.isSort(sort) && reached && p.host.hook(sort) != "" &&
			len(names) == 3 && p.ext.between(names) && p.isOwn(names[1])
	}
	own := func() bool { return p.isOwn(sort) && p.ownRight(names) }
	switch {
	case bridge():
		return true
	case own():
		return true
	}
	return false
}

// ownRight tells whether a right side is such as a rule of the extension's own has it. A sort of the host's can only stand as the second one of three, so that it is never wrong to take three where they fit.
func (p pair) ownRight(names []string) bool {
	for len(names) > 0 {
		switch {
		case len(names) >= 3 && p.ext.between(names) && p.held(names[1]):
			names = names[3:]
		case p.ext.isTerm(names[0]) || p.isOwn(names[0]):
			names = names[1:]
		default:
			return false
		}
	}
	return true
}

// held tells whether a sort of the host's stands between two sole terminals in a rule that the start comes to.
func (p pair) held(sort string) bool {
	for _, r := range p.host.Rules {
		if _, reached := p.reached[r.Sort.Of]; reached && p.host.isSort(sort) && p.host.holds(r, sort) {
			return true
		}
	}
	return false
}
