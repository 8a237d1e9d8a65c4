package rx

import (
	"strconv"
	"strings"

	"gloss/api"
	"gloss/bset"
)

// Bytes that stand for themselves only with a \ ahead.
const (
	specials    = ".[]*^$\\/"
	ereSpecials = "+?{}|()"
)

// half of all bytes: a set of more is told by what it hasn't.
const half = 128

// special is the set of the bytes that are written with a \ ahead.
func special(ere bool) api.Set {
	set := bset.Of([]byte(specials)...)
	if ere {
		return bset.Join(set, bset.Of([]byte(ereSpecials)...))
	}
	return set
}

// Print is r's text; none, if it isn't right.
func Print(r api.Rx, ere bool) string {
	if !Right(r, ere) {
		return ""
	}
	return text(r, ere)
}

// text is the text of an expression that is right.
func text(r api.Rx, ere bool) string {
	switch r.Kind {
	case api.RSet:
		return setText(r.Set, ere)
	case api.RCat:
		return strings.Join(texts(r.Kids, ere), "")
	case api.RAlt:
		return strings.Join(texts(r.Kids, ere), "|")
	case api.RRep:
		return text(r.Kids[0], ere) + timesText(r.Min, r.Max, ere)
	case api.RGroup:
		return framed("(", text(r.Kids[0], ere), ")", ere)
	case api.RBack:
		return "\\" + strconv.Itoa(r.N)
	case api.RBegin:
		return "^"
	}
	return "$"
}

func texts(kids []api.Rx, ere bool) []string {
	var all []string
	for _, kid := range kids {
		all = append(all, text(kid, ere))
	}
	return all
}

// framed is s between two signs that a basic expression writes with a \ ahead.
func framed(open, s, shut string, ere bool) string {
	if ere {
		return open + s + shut
	}
	return "\\" + open + s + "\\" + shut
}

// timesText is how a repetition from low to high times is written behind what it repeats.
func timesText(low, high int, ere bool) string {
	switch {
	case low == 0 && high == noEnd:
		return "*"
	case ere && low == 1 && high == noEnd:
		return "+"
	case ere && low == 0 && high == 1:
		return "?"
	}
	return framed("{", interval(low, high), "}", ere)
}

func interval(low, high int) string {
	switch high {
	case low:
		return strconv.Itoa(low)
	case noEnd:
		return strconv.Itoa(low) + ","
	}
	return strconv.Itoa(low) + "," + strconv.Itoa(high)
}

func setText(s api.Set, ere bool) string {
	if b, one := bset.Only(s); one {
		return byteText(b, ere)
	}
	lacks := bset.Not(s)
	switch {
	case bset.Count(lacks) == 0:
		return "."
	case bset.Count(s) > half:
		return "[^" + bracketRow(lacks) + "]"
	}
	row := bracketRow(s)
	if row == "^-" {
		// A ^ right behind the [ would turn the bracket round.
		row = "-^"
	}
	return "[" + row + "]"
}

// byteText is how a byte that stands by itself is written.
func byteText(b byte, ere bool) string {
	switch {
	case b == '\n':
		return "\\n"
	case bset.Has(special(ere), b):
		return "\\" + string([]byte{b})
	}
	return string([]byte{b})
}

// bracketRow is how the bytes of a set stand in a bracket: those that mean something there where they mean nothing.
func bracketRow(s api.Set) string {
	var first, middle, caret, last []byte
	for _, b := range bset.Bytes(s) {
		switch b {
		case ']':
			first = append(first, b)
		case '^':
			caret = append(caret, b)
		case '-':
			last = append(last, b)
		default:
			middle = append(middle, b)
		}
	}
	return string(first) + string(middle) + string(caret) + string(last)
}
