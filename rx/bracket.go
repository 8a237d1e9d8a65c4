package rx

import (
	"strings"

	"gloss/api"
	"gloss/bset"
)

// bracket reads from its [ to behind its ].
func (p *reader) bracket() (api.Rx, api.Errno) {
	from := p.at
	p.at++
	turned := p.takes("^")
	// The first is read whatever it is, because a ] is a byte there.
	set, ok := p.inBracket()
	for ok && !p.takes("]") {
		var more api.Set
		more, ok = p.inBracket()
		set = bset.Join(set, more)
	}
	if !ok {
		return api.Rx{}, api.ErrForm
	}
	if turned {
		set = bset.Not(set)
	}
	if bset.Count(set) == 0 {
		p.at = from
		return api.Rx{}, api.ErrForm
	}
	return p.node(oneOf(set)), api.OK
}

// inBracket reads a class, a byte, or all from one byte to another.
func (p *reader) inBracket() (api.Set, bool) {
	if p.at == len(p.text) {
		return api.Set{}, false
	}
	if p.atClass() {
		return p.class()
	}
	from := p.text[p.at]
	p.at++
	if !p.takesDash() {
		return bset.Of(from), true
	}
	if p.atClass() || p.text[p.at] < from {
		return api.Set{}, false
	}
	to := p.text[p.at]
	p.at++
	return bset.Range(from, to), true
}

func (p *reader) atClass() bool { return strings.HasPrefix(p.text[p.at:], "[:") }

func (p *reader) class() (api.Set, bool) {
	name, behind, closed := strings.Cut(p.text[p.at+len("[:"):], ":]")
	set, ok := bset.Class(name)
	if !closed || !ok {
		return api.Set{}, false
	}
	p.at = len(p.text) - len(behind)
	return set, true
}

// takesDash goes behind a - that has a byte of the bracket behind it; one that is last is a byte itself.
func (p *reader) takesDash() bool {
	behind := p.text[p.at:]
	if len(behind) < 2 || behind[0] != '-' || behind[1] == ']' {
		return false
	}
	p.at++
	return true
}
