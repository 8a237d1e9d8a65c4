package cmd

import (
	"strconv"
	"strings"

	"gloss/api"
	"gloss/rx"
	"gloss/tpl"
)

// Print is c's text; none, if it isn't right.
func Print(c api.Cmd, ere bool) string {
	if !Right(c, ere) {
		return ""
	}
	return place(c, ere) + string([]byte{c.Op}) + rest(c, ere)
}

// place is what stands ahead of the Op.
func place(c api.Cmd, ere bool) string {
	s := Addr(c.A, ere)
	if c.B.Kind != api.ANone {
		s += "," + Addr(c.B, ere)
	}
	if c.Not {
		s += "!"
	}
	return s
}

// Addr is a's text; none, if it isn't right.
func Addr(a api.Addr, ere bool) string {
	if !addrRight(a, ere) {
		return ""
	}
	switch a.Kind {
	case api.ALine:
		return strconv.Itoa(a.Line)
	case api.ALast:
		return "$"
	case api.AMatch:
		return "/" + rx.Print(a.Rx, ere) + "/"
	}
	return ""
}

// rest is what stands behind the Op.
func rest(c api.Cmd, ere bool) string {
	switch kind(c.Op) {
	case lines:
		return "\\\n" + linesText(c.Text)
	case jump, named:
		return nameText(c.Text)
	case subst:
		return "/" + rx.Print(c.Rx, ere) + "/" + tpl.Print(c.Tpl) + "/" + flags(c)
	case table:
		return "/" + tableText(c.Y) + "/" + tableText(c.Z) + "/"
	}
	return ""
}

// nameText is a label or a stream with what keeps it off from what is ahead.
func nameText(s string) string {
	if s == "" {
		return ""
	}
	return " " + s
}

func flags(c api.Cmd) string {
	s := ""
	if c.Global {
		s += "g"
	}
	if c.Show {
		s += "p"
	}
	if c.Nth != 0 {
		s += strconv.Itoa(c.Nth)
	}
	if c.Text != "" {
		s += "w" + nameText(c.Text)
	}
	return s
}

// linesText is s as it stands behind a, i and c, where a line end without a \ ahead would be the end of it.
func linesText(s string) string {
	var b strings.Builder
	for _, c := range []byte(s) {
		if c == '\\' || c == '\n' {
			b.WriteByte('\\')
		}
		b.WriteByte(c)
	}
	return b.String()
}

// tableText is s as it stands between slashes, on one line.
func tableText(s string) string {
	var b strings.Builder
	for _, c := range []byte(s) {
		switch c {
		case '\n':
			b.WriteString("\\n")
		case '/', '\\':
			b.WriteByte('\\')
			b.WriteByte(c)
		default:
			b.WriteByte(c)
		}
	}
	return b.String()
}
