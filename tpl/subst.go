package tpl

import (
	"strings"

	"gloss/api"
	"gloss/find"
)

// Subst is s with l in place of the matches of r from number nth on, or of that one alone; s and false, if there is none, or if too much would stand there.
func Subst(r api.Rx, l []api.Piece, s string, nth int, global bool) (string, bool) {
	ms := chosen(find.All(r, s), nth, global)
	if t, ok := replaced(s, ms, l); ok && len(ms) > 0 {
		return t, true
	}
	// An answer is new memory.
	return strings.Clone(s), false
}

// chosen are the matches that are taken out.
func chosen(all []api.Match, nth int, global bool) []api.Match {
	first := max(nth, 1) - 1
	if first >= len(all) {
		return nil
	}
	if global {
		return all[first:]
	}
	return all[first : first+1]
}

// replaced is s with l in place of these matches; false, if that is too long.
func replaced(s string, ms []api.Match, l []api.Piece) (string, bool) {
	var t bounded
	from := 0
	for _, m := range ms {
		if !t.add(s[from:m[0].From]) || !t.fill(l, m, s) {
			return "", false
		}
		from = m[0].To
	}
	if !t.add(s[from:]) {
		return "", false
	}
	return string(t), true
}

// bounded is a text that grows to MaxText bytes, so that one that would be refused takes no more memory.
type bounded []byte

func (t *bounded) add(s string) bool {
	if len(s) > api.MaxText-len(*t) {
		return false
	}
	*t = append(*t, s...)
	return true
}

// fill adds what Fill says.
func (t *bounded) fill(l []api.Piece, m api.Match, s string) bool {
	for _, p := range l {
		if !t.add(filled(p, m, s)) {
			return false
		}
	}
	return true
}
