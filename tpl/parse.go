package tpl

import "gloss/api"

// Parse reads s as a replacement for an expression of that many groups: its pieces, or the byte at which s isn't one, and why.
func Parse(s string, groups int) ([]api.Piece, int, api.Errno) {
	var d draft
	for at := 0; at < len(s); {
		p, size := next(s[at:])
		if size == 0 || !pieceRight(p, groups) || !d.add(p) {
			return nil, at, api.ErrForm
		}
		at += size
	}
	d.endText()
	return d.pieces, 0, api.OK
}

// next is the piece that s begins with, of a text no more than one byte, and in how many bytes it is written: in none, if s begins with what can't be.
func next(s string) (api.Piece, int) {
	switch s[0] {
	case '\\':
		return escaped(s[1:])
	case '&':
		return api.Piece{Group: whole}, 1
	case '/', '\n':
		return api.Piece{}, 0
	}
	return api.Piece{Group: text, Lit: s[:1]}, 1
}

// escaped is the piece that a \ and what is behind it make, and in how many bytes.
func escaped(behind string) (api.Piece, int) {
	if behind == "" {
		return api.Piece{}, 0
	}
	c := behind[0]
	switch {
	case '1' <= c && c <= '9':
		return api.Piece{Group: int(c - '0')}, 2
	case c == 'n':
		return api.Piece{Group: text, Lit: "\n"}, 2
	case special(c):
		return api.Piece{Group: text, Lit: behind[:1]}, 2
	}
	return api.Piece{}, 0
}

// draft is what was read of a replacement. A text is gathered till it ends, so that no two stand beside each other, and the text that was handed in isn't kept.
type draft struct {
	pieces []api.Piece
	open   []byte // the text that may go on
}

// add lays p behind the others; false, if a text would become too long.
func (d *draft) add(p api.Piece) bool {
	if p.Group == text {
		d.open = append(d.open, p.Lit...)
		return len(d.open) <= api.MaxText
	}
	d.endText()
	d.pieces = append(d.pieces, p)
	return true
}

func (d *draft) endText() {
	if len(d.open) > 0 {
		d.pieces = append(d.pieces, api.Piece{Group: text, Lit: string(d.open)})
		d.open = d.open[:0]
	}
}
