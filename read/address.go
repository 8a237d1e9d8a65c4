package read

import (
	"gloss/api"
	"gloss/cmd"
	"gloss/rx"
)

// addresses reads those that c has.
func (r *reader) addresses(c *api.Cmd) (err api.Errno) {
	c.A, err = r.address()
	if err != api.OK || c.A.Kind == api.ANone || !r.takes(',') {
		return err
	}
	r.skip(blanks)
	c.B, err = r.address()
	if err == api.OK && c.B.Kind == api.ANone {
		return api.ErrForm
	}
	return err
}

// address reads one, if one begins here.
func (r *reader) address() (api.Addr, api.Errno) {
	switch {
	case digit(r.here()):
		return r.line()
	case r.takes('$'):
		return api.Addr{Kind: api.ALast}, api.OK
	case r.takes('/'):
		e, err := r.expression()
		if err != api.OK {
			return api.Addr{}, err
		}
		return api.Addr{Kind: api.AMatch, Rx: e}, api.OK
	}
	return api.Addr{}, api.OK
}

func (r *reader) line() (api.Addr, api.Errno) {
	from := r.at
	a := api.Addr{Kind: api.ALine, Line: r.number()}
	if cmd.Addr(a, r.ere) == "" {
		r.at = from
		return api.Addr{}, api.ErrForm
	}
	return a, api.OK
}

// expression reads one and the / behind it.
func (r *reader) expression() (api.Rx, api.Errno) {
	from := r.at
	s, ok := r.part(slashOfExpression)
	if !ok {
		return api.Rx{}, api.ErrForm
	}
	e, at, err := rx.Parse(s, r.ere)
	if err == api.OK && rx.Print(e, r.ere) != "" {
		return e, api.OK
	}
	r.at = from + at
	if err == api.ErrDeep {
		return api.Rx{}, api.ErrDeep
	}
	return api.Rx{}, api.ErrForm
}

// part reads up to the / that slash tells the place of, and goes behind it.
func (r *reader) part(slash func(s string) int) (string, bool) {
	s := r.text[r.at:]
	size := slash(s)
	if size >= len(s) {
		r.at = len(r.text)
		return "", false
	}
	r.at += size + 1
	return s[:size], true
}

// slashOfExpression is the place of the / behind the expression that s begins with; len(s) or more, if there is none.
func slashOfExpression(s string) int {
	at := 0
	for at < len(s) && s[at] != '/' {
		switch s[at] {
		case '\\':
			at += 2
		case '[':
			at = behindBracket(s, at)
		default:
			at++
		}
	}
	return at
}

// behindBracket is the place behind the ] of the bracket that begins there; beyond s, if it has none.
func behindBracket(s string, at int) int {
	at = behindByte(s, at+1, '^')
	// A ] that is first is a byte of the bracket.
	at = behindByte(s, at, ']')
	for at < len(s) && s[at] != ']' {
		at = behindMember(s, at)
	}
	return at + 1
}

// behindByte goes over b, if it stands there.
func behindByte(s string, at int, b byte) int {
	if at < len(s) && s[at] == b {
		return at + 1
	}
	return at
}

// behindMember is the place behind the byte of a bracket there, or behind the whole class that begins so, whose ] isn't the bracket's.
func behindMember(s string, at int) int {
	if !pair(s, at, '[', ':') {
		return at + 1
	}
	for end := at + 2; end < len(s); end++ {
		if pair(s, end, ':', ']') {
			return end + 2
		}
	}
	return at + 1
}

// pair tells whether a and b stand there, side by side.
func pair(s string, at int, a, b byte) bool {
	return at+1 < len(s) && s[at] == a && s[at+1] == b
}
