// Package promises holds the promises that are of all calls alike against all of them, at arguments of any kind.
package promises

import (
	"cmp"
	"math"
	"math/rand"
	"reflect"
	"slices"
	"strconv"
	"testing"

	"syntagm/api"
	"syntagm/bits"
	"syntagm/compose"
	"syntagm/dfa"
	"syntagm/doc"
	"syntagm/elab"
	"syntagm/inst"
	"syntagm/lexical"
	"syntagm/look"
	"syntagm/mini"
	"syntagm/module"
	"syntagm/munch"
	"syntagm/nfa"
	"syntagm/parse"
	"syntagm/regex"
	"syntagm/rename"
	"syntagm/sets"
	"syntagm/spans"
	"syntagm/spot"
	"syntagm/states"
	"syntagm/table"
	"syntagm/word"
)

// calls are all functions that the chapters list, and such as use the methods of what Build, or New, makes.
func calls() map[string]any {
	return map[string]any{
		"bits.Of": bits.Of, "bits.List": bits.List, "bits.Has": bits.Has, "bits.With": bits.With, "bits.Without": bits.Without, "bits.Union": bits.Union, "bits.Meet": bits.Meet, "bits.Less": bits.Less, "bits.In": bits.In, "bits.Count": bits.Count, "bits.First": bits.First,
		"spot.Of": spot.Of, "spot.At": spot.At, "spot.Lines": spot.Lines, "spot.Line": spot.Line, "spot.Move": spot.Move,
		"regex.Parse": regex.Parse, "regex.Show": regex.Show, "regex.Nullable": regex.Nullable, "regex.Match": regex.Match, "regex.Has": regex.Has,
		"nfa.Size": nfa.Size, "nfa.Machine": machine,
		"dfa.Classes": dfa.Classes, "dfa.Build": dfa.Build, "dfa.Valid": dfa.Valid, "dfa.Go": dfa.Go, "dfa.Run": dfa.Run,
		"mini.Least": mini.Least, "mini.Same": mini.Same, "mini.Live": mini.Live, "mini.Of": mini.Of,
		"munch.Longest": munch.Longest, "munch.Win": munch.Win, "munch.Pick": munch.Pick, "munch.All": munch.All,
		"word.Words": word.Words, "word.IsName": word.IsName, "word.Quote": word.Quote,
		"module.Parse": module.Parse, "module.Print": module.Print, "module.Valid": module.Valid, "module.Same": module.Same, "module.Show": module.Show,
		"rename.Norm": rename.Norm, "rename.Union": rename.Union, "rename.Rename": rename.Rename, "rename.Change": rename.Change, "rename.Same": rename.Same, "rename.Names": rename.Names,
		"elab.Elab": elab.Elab, "elab.Order": elab.Order, "elab.Own": elab.Own,
		"inst.Flat": inst.Flat, "inst.Valid": inst.Valid, "inst.Find": inst.Find, "inst.Same": inst.Same,
		"sets.Empty": sets.Empty, "sets.First": sets.First, "sets.Of": sets.Of, "sets.Follow": sets.Follow, "sets.Lives": sets.Lives,
		"states.Close": states.Close, "states.Behind": states.Behind, "states.Step": states.Step, "states.Build": states.Build, "states.Go": states.Go,
		"look.Ahead": look.Ahead, "look.All": look.All, "look.Done": look.Done,
		"table.All": table.All, "table.Build": table.Build, "table.Run": table.Run, "table.Clashes": table.Clashes,
		"lexical.Layouts": lexical.Layouts, "lexical.Build": lexical.Build, "lexical.Clashes": lexical.Clashes, "lexical.Scan": lexical.Scan,
		"compose.Check": compose.Check, "compose.Hook": compose.Hook, "compose.Hold": compose.Hold, "compose.Whole": compose.Whole,
		"parse.Parser": parser, "parse.Leaves": parse.Leaves, "parse.Valid": parse.Valid, "parse.Same": parse.Same,
		"spans.Of": spans.Of, "spans.Class": spans.Class, "spans.Cover": spans.Cover, "spans.At": spans.At,
		"doc.Put": doc.Put, "doc.Doc": document,
	}
}

func machine(l []api.Regex, at []int, b byte, s string) ([]int, []int, api.Set, api.Set, api.Errno) {
	m, err := nfa.Build(l)
	if m == nil {
		return nil, nil, 0, 0, err
	}
	return m.Begin(), m.Step(at, b), m.Tags(at), m.Run(s), err
}

func parser(g api.Grammar, text string) (api.Grammar, parse.Result, api.Errno) {
	p, err := parse.New(g)
	if p == nil {
		return api.Grammar{}, parse.Result{}, err
	}
	return p.Grammar(), p.Parse(text), err
}

func document(g api.Grammar, text string, from, to int, s string) (string, parse.Result, parse.Result, api.Errno) {
	p, _ := parse.New(g)
	d := doc.New(p, text)
	first := d.Result()
	err := d.Edit(from, to, s)
	return d.Text(), first, d.Result(), err
}

// maker makes values of any type, small ones, and such as are near to what may be.
type maker struct{ *rand.Rand }

func (m maker) of(t reflect.Type, deep int) reflect.Value {
	v := reflect.New(t).Elem()
	if made, ok := m.likely(t); ok {
		v.Set(reflect.ValueOf(made))
		return v
	}
	switch t.Kind() {
	case reflect.Bool:
		v.SetBool(m.Intn(2) == 0)
	case reflect.Int:
		v.SetInt(m.number())
	case reflect.Uint8, reflect.Uint64:
		v.SetUint([]uint64{0, 1, 3, 'a', 'b', 10, 1 << 63, math.MaxUint64}[m.Intn(8)])
	case reflect.Complex128:
		floats := []float64{0, 1, 2, -1, 0.5, math.NaN(), math.Inf(1), math.Inf(-1), 1e300}
		v.SetComplex(complex(floats[m.Intn(9)], floats[m.Intn(9)]))
	case reflect.String:
		v.SetString(texts[m.Intn(len(texts))])
	case reflect.Slice:
		if deep > 0 {
			for range m.Intn(4) {
				v.Set(reflect.Append(v, m.of(t.Elem(), deep-1)))
			}
		}
	case reflect.Array:
		for i := range t.Len() {
			v.Index(i).Set(m.of(t.Elem(), deep))
		}
	case reflect.Struct:
		for i := range t.NumField() {
			v.Field(i).Set(m.of(t.Field(i).Type, deep))
		}
	default:
		panic(t)
	}
	return v
}

var texts = []string{"", "a", "b", "S", "T", "L", "x", "a", "S", "[ab]+", "a*", "(a|b)*c", "L(a)", "m", "n", "ab\nba", " a ", "é\xff", "module m\nterm a /a/\nrule x S = a\nstart S", "module m\nimport n a = b", "\\", "/"}

var modules = []string{
	"module m\nimport n a = c\nterm b /b/ class 3\nover b c\nrule y S = b T(S) ; 2\nrule z T(x) = x\nchange y = b\nstart S",
	"module m\nimport n\nremove x\nstart S",
	"module n\nterm a /a/ layout\nrule x S = a\nstart S",
	"module S\nimport n\nimport m\nstart S",
}

func (m maker) number() int64 {
	if m.Intn(8) == 0 {
		return []int64{math.MinInt64, math.MaxInt64, 59, 60, 63, 64, 1 << 40}[m.Intn(7)]
	}
	return int64(m.Intn(7) - 3)
}

// likely are values that may be, or nearly: most of those whose types have many that may not.
func (m maker) likely(t reflect.Type) (any, bool) {
	if t.Kind() != reflect.Struct || m.Intn(4) == 0 {
		return nil, false
	}
	g := m.grammar()
	switch t {
	case reflect.TypeFor[api.Grammar]():
		return g, true
	case reflect.TypeFor[dfa.DFA]():
		d, _ := mini.Of([]string{texts[m.Intn(12)], texts[m.Intn(12)]})
		return d, true
	case reflect.TypeFor[states.Automaton]():
		a, _ := states.Build(g)
		return a, true
	case reflect.TypeFor[table.Table]():
		tab, _ := table.Build(g)
		return tab, true
	case reflect.TypeFor[lexical.Scanner]():
		s, _, _ := lexical.Build(g)
		return s, true
	case reflect.TypeFor[api.Module]():
		mod, _, _ := module.Parse(modules[m.Intn(len(modules))])
		return mod, true
	case reflect.TypeFor[rename.Items]():
		return m.items(), true
	case reflect.TypeFor[parse.Result]():
		if p, _ := parse.New(g); p != nil {
			return p.Parse(texts[m.Intn(len(texts))]), true
		}
	}
	return nil, false
}

// grammar is a valid one; seldom another one than the first time it was made, so that a table may be its own.
func (m maker) grammar() api.Grammar {
	rnd := rand.New(rand.NewSource(int64(m.Intn(9))))
	g := api.Grammar{
		Terms: []api.Term{{Name: "a", Regex: "a"}, {Name: "b", Regex: "b"}, {Name: "c", Regex: " ", Layout: true}},
		Sorts: []string{"S", "T"},
	}
	for i := range 3 {
		p := api.Prod{Label: strconv.Itoa(i), Sort: rnd.Intn(2)}
		for range rnd.Intn(4) {
			p.Right = append(p.Right, api.Sym(rnd.Intn(4)-2))
		}
		g.Prods = append(g.Prods, p)
	}
	return g
}

func (m maker) items() rename.Items {
	var x rename.Items
	for _, name := range []string{"a", "b"} {
		x.Terms = append(x.Terms, api.Term{Name: name, Regex: name})
	}
	for i := range 1 + m.Intn(4) {
		r := api.Rule{Label: strconv.Itoa(i), Sort: api.Name{Of: []string{"S", "T", "L"}[m.Intn(3)]}}
		if r.Sort.Of == "L" {
			r.Sort.Arg = []api.Name{{Of: "x"}}
		}
		for range m.Intn(3) {
			n := api.Name{Of: []string{"S", "T", "a", "b", "x", "L"}[m.Intn(6)]}
			if n.Of == "L" {
				n.Arg = []api.Name{{Of: "a"}}
			}
			r.Right = append(r.Right, n)
		}
		x.Rules = append(x.Rules, r)
	}
	return x
}

// copied is a value in new memory.
func copied(v reflect.Value) reflect.Value {
	out := reflect.New(v.Type()).Elem()
	switch v.Kind() {
	case reflect.Slice:
		for i := range v.Len() {
			out.Set(reflect.Append(out, copied(v.Index(i))))
		}
	case reflect.Array:
		for i := range v.Len() {
			out.Index(i).Set(copied(v.Index(i)))
		}
	case reflect.Struct:
		for i := range v.NumField() {
			out.Field(i).Set(copied(v.Field(i)))
		}
	default:
		out.Set(v)
	}
	return out
}

// alike is reflect.DeepEqual, but that a number that is none is like itself, and lists without things are alike.
func alike(a, b reflect.Value) bool {
	switch a.Kind() {
	case reflect.Slice, reflect.Array:
		if a.Len() != b.Len() {
			return false
		}
		for i := range a.Len() {
			if !alike(a.Index(i), b.Index(i)) {
				return false
			}
		}
		return true
	case reflect.Struct:
		for i := range a.NumField() {
			if !alike(a.Field(i), b.Field(i)) {
				return false
			}
		}
		return true
	case reflect.Complex128:
		x, y := a.Complex(), b.Complex()
		return math.Float64bits(real(x)) == math.Float64bits(real(y)) && math.Float64bits(imag(x)) == math.Float64bits(imag(y))
	}
	return a.Interface() == b.Interface()
}

// spoil changes whatever a value's lists hold.
func spoil(v reflect.Value) {
	switch v.Kind() {
	case reflect.Slice:
		for i := range v.Len() {
			spoil(v.Index(i))
			v.Index(i).SetZero()
		}
	case reflect.Struct:
		for i := range v.NumField() {
			spoil(v.Field(i))
		}
	}
}

// stretch is where a list's memory lies.
type stretch struct{ from, to uintptr }

// memory tells the stretches of all lists in a value.
func memory(l []stretch, v reflect.Value) []stretch {
	switch v.Kind() {
	case reflect.Slice:
		if v.Len() > 0 {
			l = append(l, stretch{v.Pointer(), v.Pointer() + uintptr(v.Len())*v.Type().Elem().Size()})
		}
		for i := range v.Len() {
			l = memory(l, v.Index(i))
		}
	case reflect.Struct:
		for i := range v.NumField() {
			l = memory(l, v.Field(i))
		}
	}
	return l
}

// apart tells whether no two lists of some values share memory.
func apart(all []reflect.Value) bool {
	var l []stretch
	for _, v := range all {
		l = memory(l, v)
	}
	slices.SortFunc(l, func(a, b stretch) int { return cmp.Compare(a.from, b.from) })
	for i := 1; i < len(l); i++ {
		if l[i].from < l[i-1].to {
			return false
		}
	}
	return true
}

func TestAnyArguments(t *testing.T) {
	m := maker{rand.New(rand.NewSource(1))}
	for name, f := range calls() {
		call := reflect.ValueOf(f)
		do := func(in []reflect.Value) []reflect.Value {
			defer func() {
				if x := recover(); x != nil {
					t.Fatalf("%s panics: %v, at %v", name, x, in)
				}
			}()
			if call.Type().IsVariadic() {
				return call.CallSlice(in)
			}
			return call.Call(in)
		}
		for range 400 {
			var in, again []reflect.Value
			for i := range call.Type().NumIn() {
				in = append(in, m.of(call.Type().In(i), 3))
				again = append(again, copied(in[i]))
			}
			first := do(in)
			kept := make([]reflect.Value, len(first))
			for i, v := range first {
				kept[i] = copied(v)
			}
			for i := range in {
				if !alike(in[i], again[i]) {
					t.Fatalf("%s changes an argument: %v was %v", name, in[i], again[i])
				}
			}
			if !apart(first) {
				t.Fatalf("%s answers lists that share memory: %v", name, first)
			}
			for _, v := range first {
				spoil(v)
			}
			for i := range in {
				if !alike(in[i], again[i]) {
					t.Fatalf("%s shares with an argument: %v was %v", name, in[i], again[i])
				}
			}
			checkAgain(t, name, again, kept, do(again))
		}
	}
}

// checkAgain checks that a call answers the same again, and that beside an error all else is zero.
func checkAgain(t *testing.T, name string, in, first, second []reflect.Value) {
	t.Helper()
	failed := false
	for i, v := range second {
		if !alike(v, first[i]) {
			t.Fatalf("%s answers %v, and then %v, at %v", name, first[i], v, in)
		}
		failed = failed || v.Type() == reflect.TypeFor[api.Errno]() && v.Int() != 0
	}
	beside := map[string]bool{"word.Words": true, "module.Parse": true, "doc.Doc": true}
	for _, v := range second {
		if failed && !beside[name] && v.Type() != reflect.TypeFor[api.Errno]() && !alike(v, reflect.Zero(v.Type())) {
			t.Fatalf("%s answers %v beside an error, at %v", name, second, in)
		}
	}
}
