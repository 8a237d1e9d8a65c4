package rx

import (
	"gloss/api"
	"gloss/bset"
)

// Kinds of signs. Basic and extended expressions write them in other ways, and are read by one reader that sees signs alone.
const (
	noSign  = iota // a \ ahead of nothing that it may stand ahead of
	theEnd         // of the text
	itself         // the byte b
	point          // any byte
	bracket        // a set begins
	begin
	end
	open
	shut
	bar
	star
	plus
	ask
	brace // an interval begins
	back  // group b, as a digit
)

// sign is what stands at a place of a text, and in how many bytes.
type sign struct {
	kind int
	b    byte
	size int
}

// signAt is the sign at a place of s, wherever in its expression that may be.
func signAt(s string, at int, ere bool) sign {
	if at == len(s) {
		return sign{kind: theEnd}
	}
	if s[at] == '\\' {
		return quoted(s[at+1:], ere)
	}
	return sign{kind: bare(s[at], ere), b: s[at], size: 1}
}

// quoted is the sign that a \ and what is behind it make.
func quoted(behind string, ere bool) sign {
	if behind == "" {
		return sign{}
	}
	b := behind[0]
	switch {
	case b == 'n':
		return sign{kind: itself, b: '\n', size: 2}
	case bset.Has(bset.Range('0', '9'), b):
		return sign{kind: back, b: b, size: 2}
	case bset.Has(special(ere), b):
		return sign{kind: itself, b: b, size: 2}
	case !ere:
		return sign{kind: framing(b), b: b, size: 2}
	}
	return sign{}
}

// bare is the kind of a byte without a \ ahead.
func bare(b byte, ere bool) int {
	switch b {
	case '.':
		return point
	case '[':
		return bracket
	case '^':
		return begin
	case '$':
		return end
	case '*':
		return star
	}
	if ere {
		return bareExtended(b)
	}
	return itself
}

// bareExtended is the kind of a byte that only extended expressions may hold to be more than itself.
func bareExtended(b byte) int {
	switch b {
	case '|':
		return bar
	case '+':
		return plus
	case '?':
		return ask
	}
	if kind := framing(b); kind != noSign {
		return kind
	}
	return itself
}

// framing is the kind of a sign that is one byte in an extended expression, and has a \ ahead in a basic one.
func framing(b byte) int {
	switch b {
	case '(':
		return open
	case ')':
		return shut
	case '{':
		return brace
	}
	return noSign
}

// oneOf is an expression for one byte of a set.
func oneOf(s api.Set) api.Rx { return api.Rx{Kind: api.RSet, Set: s} }
