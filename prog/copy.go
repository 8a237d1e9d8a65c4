package prog

import (
	"strings"

	"gloss/api"
)

// copyCmds is l in new memory, down to its texts: what is turned in l later leaves it as it was.
func copyCmds(l []api.Cmd) []api.Cmd {
	return copyEach(l, copyCmd)
}

// copyEach is a list of the copies of l's elements, with no room behind its length.
func copyEach[T any](l []T, copyOne func(T) T) []T {
	if len(l) == 0 {
		return nil
	}
	m := make([]T, len(l))
	for i, x := range l {
		m[i] = copyOne(x)
	}
	return m
}

func copyCmd(c api.Cmd) api.Cmd {
	c.A.Rx, c.B.Rx, c.Rx = copyRx(c.A.Rx), copyRx(c.B.Rx), copyRx(c.Rx)
	c.Text, c.Y, c.Z = strings.Clone(c.Text), strings.Clone(c.Y), strings.Clone(c.Z)
	c.Tpl = copyEach(c.Tpl, copyPiece)
	return c
}

func copyRx(r api.Rx) api.Rx {
	r.Kids = copyEach(r.Kids, copyRx)
	return r
}

func copyPiece(p api.Piece) api.Piece {
	p.Lit = strings.Clone(p.Lit)
	return p
}
