package regex

import "syntagm/api"

// mostSize is the greatest size of an atom, of a piece, and of the whole.
const mostSize = 500

// fault is what a reader that fails panics with.
type fault struct{ err api.Errno }

// reader reads a regex's text from the left to the right.
type reader struct {
	text string
	at   int
}

// Parse is the regex that a text is.
func Parse(text string) (api.Regex, api.Errno) {
	if len(text) > api.MaxRegex {
		return api.Regex{}, api.ErrMany
	}
	in := &reader{text: text}
	return in.whole()
}

// whole reads the whole text, or tells why it can't be read.
func (in *reader) whole() (r api.Regex, err api.Errno) {
	defer func() {
		if x := recover(); x != nil {
			f, ok := x.(fault)
			if !ok {
				panic(x)
			}
			r, err = api.Regex{}, f.err
		}
	}()
	r = in.ways()
	if in.at < len(in.text) {
		in.fail(api.ErrForm)
	}
	return in.sized(r), api.OK
}

func (in *reader) fail(err api.Errno) { panic(fault{err}) }

// sized is a regex that is not too great.
func (in *reader) sized(r api.Regex) api.Regex {
	if size(r) > mostSize {
		in.fail(api.ErrMany)
	}
	return r
}

// peek is the byte that comes; false at the end.
func (in *reader) peek() (byte, bool) {
	if in.at == len(in.text) {
		return 0, false
	}
	return in.text[in.at], true
}

// take is the byte that comes, passed; there must be one.
func (in *reader) take() byte {
	b, ok := in.peek()
	if !ok {
		in.fail(api.ErrForm)
	}
	in.at++
	return b
}

// passed tells whether a byte comes, and passes it.
func (in *reader) passed(b byte) bool {
	c, ok := in.peek()
	if !ok || c != b {
		return false
	}
	in.at++
	return true
}

func (in *reader) ways() api.Regex {
	l := []api.Regex{in.way()}
	for in.passed('|') {
		l = append(l, in.way())
	}
	if len(l) == 1 {
		return l[0]
	}
	return api.Regex{Kind: api.RegexAlt, Kids: l}
}

func (in *reader) way() api.Regex {
	var l []api.Regex
	for {
		b, ok := in.peek()
		if !ok || b == '|' || b == ')' {
			break
		}
		l = append(l, in.piece())
	}
	switch len(l) {
	case 0:
		return api.Regex{Kind: api.RegexEmpty}
	case 1:
		return l[0]
	}
	return api.Regex{Kind: api.RegexCat, Kids: l}
}

func (in *reader) piece() api.Regex {
	r := in.sized(in.atom())
	for {
		switch {
		case in.passed('*'):
			r = star(r)
		case in.passed('+'):
			r = api.Regex{Kind: api.RegexCat, Kids: []api.Regex{r, star(clone(r))}}
		case in.passed('?'):
			r = api.Regex{Kind: api.RegexAlt, Kids: []api.Regex{r, {Kind: api.RegexEmpty}}}
		default:
			return r
		}
		in.sized(r)
	}
}

func star(r api.Regex) api.Regex {
	return api.Regex{Kind: api.RegexStar, Kids: []api.Regex{r}}
}

func (in *reader) atom() api.Regex {
	switch b := in.take(); b {
	case '(':
		r := in.ways()
		if in.take() != ')' {
			in.fail(api.ErrForm)
		}
		return r
	case '[':
		return in.items()
	case '.':
		return bytesOf(except(span('\n', '\n')))
	case '\\':
		b = in.escaped()
		return bytesOf(span(b, b))
	case ']', '*', '+', '?', '|', ')':
		in.fail(api.ErrForm)
		return api.Regex{}
	default:
		return bytesOf(span(b, b))
	}
}

// items reads what stands behind a `[`, with the `]`.
func (in *reader) items() api.Regex {
	var l [4]uint64
	others := in.passed('^')
	for !in.passed(']') {
		from := in.itemByte()
		to := from
		if in.passed('-') {
			to = in.itemByte()
		}
		if to < from {
			in.fail(api.ErrForm)
		}
		for i, word := range span(from, to) {
			l[i] |= word
		}
	}
	if others {
		l = except(l)
	}
	return bytesOf(l)
}

func (in *reader) itemByte() byte {
	switch b := in.take(); b {
	case ']', '-':
		in.fail(api.ErrForm)
		return 0
	case '\\':
		return in.escaped()
	default:
		return b
	}
}

// escaped reads what stands behind a `\`.
func (in *reader) escaped() byte {
	b := in.take()
	switch {
	case b == 'n':
		return '\n'
	case b == 't':
		return '\t'
	case b == 'r':
		return '\r'
	case b == 's':
		return ' '
	case b == 'x':
		high := in.digit()
		return high<<4 | in.digit()
	case 'a' <= b && b <= 'z', 'A' <= b && b <= 'Z', '0' <= b && b <= '9':
		in.fail(api.ErrForm)
	}
	return b
}

// digit reads one of 16 digits.
func (in *reader) digit() byte {
	b := in.take()
	switch {
	case '0' <= b && b <= '9':
		return b - '0'
	case 'a' <= b && b <= 'f':
		return b - 'a' + 10
	}
	in.fail(api.ErrForm)
	return 0
}

func bytesOf(l [4]uint64) api.Regex {
	return api.Regex{Kind: api.RegexBytes, Bytes: l}
}

// span is the bytes from one up to another one.
func span(from, to byte) [4]uint64 {
	var l [4]uint64
	for n := int(from); n <= int(to); n++ {
		l[n/64] |= 1 << (n % 64)
	}
	return l
}

// except is all other bytes.
func except(l [4]uint64) [4]uint64 {
	for i := range l {
		l[i] = ^l[i]
	}
	return l
}
