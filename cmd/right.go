package cmd

import (
	"strings"

	"gloss/api"
	"gloss/rx"
	"gloss/tpl"
)

const (
	maxLine = 9999 // the greatest line number of an address
	maxNth  = 99   // the greatest number of a match
)

// Right tells whether c is a command.
func Right(c api.Cmd, ere bool) bool {
	return placed(c, ere) && lean(c) && asked(c, ere)
}

// placed tells whether c may stand at its addresses.
func placed(c api.Cmd, ere bool) bool {
	if !addrRight(c.A, ere) || !addrRight(c.B, ere) {
		return false
	}
	switch addrs(c.Op) {
	case 0:
		return c.A.Kind == api.ANone && c.B.Kind == api.ANone && !c.Not
	case 1:
		return c.B.Kind == api.ANone
	}
	return c.A.Kind != api.ANone || c.B.Kind == api.ANone
}

// addrs is how many addresses op may have.
func addrs(op byte) int {
	switch op {
	case '}', ':':
		return 0
	case 'q', 'a', 'i', '=':
		return 1
	}
	return 2
}

func addrRight(a api.Addr, ere bool) bool {
	switch a.Kind {
	case api.ANone, api.ALast:
		return a.Line == 0 && noRx(a.Rx)
	case api.ALine:
		return 1 <= a.Line && a.Line <= maxLine && noRx(a.Rx)
	case api.AMatch:
		return a.Line == 0 && written(a.Rx, ere)
	}
	return false
}

func noRx(r api.Rx) bool { return rx.Same(r, api.Rx{}) }

// written tells whether r is right and its text has something to stand between two slashes.
func written(r api.Rx, ere bool) bool { return rx.Print(r, ere) != "" }

// lean tells whether c is zero in all that its Op doesn't ask.
func lean(c api.Cmd) bool {
	c.A, c.B, c.Not = api.Addr{}, api.Addr{}, false
	switch kind(c.Op) {
	case lines, jump, named:
		c.Text = ""
	case subst:
		c.Rx, c.Tpl, c.Text = api.Rx{}, nil, ""
		c.Global, c.Show, c.Nth = false, false, 0
	case table:
		c.Y, c.Z = "", ""
	}
	return Same(c, api.Cmd{Op: c.Op})
}

// asked tells whether what c's Op asks is as it must be.
func asked(c api.Cmd, ere bool) bool {
	switch kind(c.Op) {
	case plain:
		return true
	case lines:
		return len(c.Text) <= api.MaxText
	case jump:
		return labelOrNone(c.Text)
	case named:
		return Label(c.Text)
	case subst:
		return substRight(c, ere)
	case table:
		return tableRight(c.Y, c.Z)
	}
	return false
}

func labelOrNone(s string) bool { return s == "" || Label(s) }

// substRight asks for the expression first: the groups of one that isn't right might be without number.
func substRight(c api.Cmd, ere bool) bool {
	return written(c.Rx, ere) && tpl.Right(c.Tpl, rx.Groups(c.Rx)) &&
		0 <= c.Nth && c.Nth <= maxNth && labelOrNone(c.Text)
}

// tableRight tells whether each byte of y has one in z, and just one.
func tableRight(y, z string) bool {
	if len(y) != len(z) || len(y) > api.MaxText {
		return false
	}
	for i := range len(y) {
		if strings.IndexByte(y[:i], y[i]) >= 0 {
			return false
		}
	}
	return true
}
