package read

import (
	"strings"

	"gloss/api"
	"gloss/cmd"
	"gloss/rx"
	"gloss/tpl"
)

// asked reads what c's Op asks behind it.
func (r *reader) asked(c *api.Cmd) api.Errno {
	ok := true
	switch c.Op {
	case 'a', 'i', 'c':
		c.Text, ok = r.lines()
	case 'b', 't', ':', 'w':
		c.Text = r.label()
	case 's':
		return r.subst(c)
	case 'y':
		ok = r.table(c)
	}
	if !ok {
		return api.ErrForm
	}
	return api.OK
}

// lines reads a text up to the line end that is its end, and leaves that one.
func (r *reader) lines() (string, bool) {
	if !r.takes('\\') || !r.takes('\n') {
		return "", false
	}
	var b []byte
	for !r.over() && r.here() != '\n' {
		if r.takes('\\') && r.over() {
			return "", false
		}
		b = append(b, r.here())
		r.at++
	}
	return string(b), true
}

// label reads blanks and a name of any length; none, if there is none.
func (r *reader) label() string {
	r.skip(blanks)
	from := r.at
	for !r.over() && cmd.Label(r.text[r.at:r.at+1]) {
		r.at++
	}
	return strings.Clone(r.text[from:r.at])
}

// subst reads from the first / of an s.
func (r *reader) subst(c *api.Cmd) (err api.Errno) {
	if !r.takes('/') {
		return api.ErrForm
	}
	if c.Rx, err = r.expression(); err != api.OK {
		return err
	}
	if !r.replacement(c) || !r.flags(c) {
		return api.ErrForm
	}
	return api.OK
}

// replacement reads one for c's expression, and the / behind it.
func (r *reader) replacement(c *api.Cmd) bool {
	from := r.at
	s, ok := r.part(slashOfReplacement)
	if !ok {
		return false
	}
	l, at, err := tpl.Parse(s, rx.Groups(c.Rx))
	if err != api.OK {
		r.at = from + at
		return false
	}
	c.Tpl = l
	return true
}

// slashOfReplacement is the place of the / behind the replacement that s begins with; len(s) or more, if there is none.
func slashOfReplacement(s string) int {
	at := 0
	for at < len(s) && s[at] != '/' {
		if s[at] == '\\' {
			at++
		}
		at++
	}
	return at
}

// flags reads what stands behind the last / of an s. One that c has already is left where it is: nothing goes on so.
func (r *reader) flags(c *api.Cmd) bool {
	for {
		switch {
		case !c.Global && r.takes('g'):
			c.Global = true
		case !c.Show && r.takes('p'):
			c.Show = true
		case c.Nth == 0 && digit(r.here()):
			if c.Nth = r.number(); c.Nth == 0 {
				return false
			}
		case r.takes('w'):
			c.Text = r.label()
			return c.Text != ""
		default:
			return true
		}
	}
}

// table reads from the first / of a y.
func (r *reader) table(c *api.Cmd) bool {
	if !r.takes('/') {
		return false
	}
	var ok bool
	if c.Y, ok = r.row(); !ok {
		return false
	}
	c.Z, ok = r.row()
	return ok
}

// row reads the bytes of one side of a y, and the / behind them.
func (r *reader) row() (string, bool) {
	var l []byte
	for !r.over() && r.here() != '/' {
		b, ok := r.rowByte()
		if !ok {
			return "", false
		}
		l = append(l, b)
	}
	return string(l), r.takes('/')
}

func (r *reader) rowByte() (byte, bool) {
	if r.takes('\\') {
		return r.quoted()
	}
	b := r.here()
	if b == '\n' {
		return 0, false
	}
	r.at++
	return b, true
}

// quoted reads what stands behind a \ in a y.
func (r *reader) quoted() (byte, bool) {
	switch {
	case r.takes('/'):
		return '/', true
	case r.takes('\\'):
		return '\\', true
	case r.takes('n'):
		return '\n', true
	}
	return 0, false
}
