package read

import (
	"strings"

	"gloss/api"
	"gloss/cmd"
)

const (
	blanks  = " \t"
	between = " \t\n;" // what may stand ahead of a command, and behind the last one
	closing = "\n;}"   // what shows that a command is over
)

// Parse reads s as a script: its commands, or the byte at which s isn't one, and why.
func Parse(s string, ere bool) ([]api.Cmd, int, api.Errno) {
	if len(s) > api.MaxScript {
		return nil, api.MaxScript, api.ErrBig
	}
	r := reader{text: s, ere: ere}
	l, err := r.script()
	if err != api.OK {
		return nil, r.at, err
	}
	return l, 0, api.OK
}

// reader reads a text from left to right; where it stops is where a fault is.
type reader struct {
	text string
	ere  bool
	at   int
	open int // braces
}

func (r *reader) script() ([]api.Cmd, api.Errno) {
	var l []api.Cmd
	for r.skip(between); !r.over(); r.skip(between) {
		if len(l) == api.MaxCmds {
			return nil, api.ErrBig
		}
		c, err := r.command()
		if err != api.OK {
			return nil, err
		}
		l = append(l, c)
	}
	if r.open > 0 {
		return nil, api.ErrForm
	}
	return l, api.OK
}

// command reads one, up to where the next one may begin.
func (r *reader) command() (api.Cmd, api.Errno) {
	c, err := r.head()
	if err != api.OK {
		return api.Cmd{}, err
	}
	op := r.at
	r.at++
	if err := r.asked(&c); err != api.OK {
		return api.Cmd{}, err
	}
	if err := r.fit(c); err != api.OK {
		r.at = op
		return api.Cmd{}, err
	}
	if !r.ended(c.Op) {
		return api.Cmd{}, api.ErrForm
	}
	return c, api.OK
}

// head reads where a command is, and sees its Op.
func (r *reader) head() (api.Cmd, api.Errno) {
	var c api.Cmd
	if err := r.addresses(&c); err != api.OK {
		return api.Cmd{}, err
	}
	r.skip(blanks)
	c.Not = r.takes('!')
	r.skip(blanks)
	if r.over() {
		return api.Cmd{}, api.ErrForm
	}
	c.Op = r.here()
	return c, api.OK
}

// fit tells what is wrong with c as the next command.
func (r *reader) fit(c api.Cmd) (err api.Errno) {
	if !cmd.Right(c, r.ere) {
		return api.ErrForm
	}
	r.open, err = nested(r.open, c.Op)
	return err
}

// ended tells whether a command of op may be over here.
func (r *reader) ended(op byte) bool {
	switch op {
	case '{', 'a', 'i', 'c':
		return true
	}
	r.skip(blanks)
	return r.over() || strings.IndexByte(closing, r.here()) >= 0
}

func (r *reader) over() bool { return r.at == len(r.text) }

// here is the byte that comes next; at the end 0, which means nothing in a script.
func (r *reader) here() byte {
	if r.over() {
		return 0
	}
	return r.text[r.at]
}

// skip goes over all bytes that are in set.
func (r *reader) skip(set string) {
	for !r.over() && strings.IndexByte(set, r.here()) >= 0 {
		r.at++
	}
}

// takes goes behind b, if it stands here.
func (r *reader) takes(b byte) bool {
	if r.over() || r.here() != b {
		return false
	}
	r.at++
	return true
}

// beyond is above all numbers that a script may have.
const beyond = 10000

// number reads digits, if there are some. A number that is beyond all isn't told exactly.
func (r *reader) number() int {
	n := 0
	for digit(r.here()) {
		n = min(10*n+int(r.here()-'0'), beyond)
		r.at++
	}
	return n
}

func digit(b byte) bool { return '0' <= b && b <= '9' }
