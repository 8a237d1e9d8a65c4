// Package mark measures texts: lines as the real part, bytes as the imaginary part of one complex number, so that two counts are added as one.
package mark

import "strings"

// Of is the mark of that many lines and bytes.
func Of(lines, bytes int) complex128 {
	return complex(float64(lines), float64(bytes))
}

// Lines of a mark.
func Lines(m complex128) int { return int(real(m)) }

// Bytes of a mark.
func Bytes(m complex128) int { return int(imag(m)) }

// Sum of all marks, part by part.
func Sum(ms ...complex128) complex128 {
	var sum, lost complex128
	for _, m := range ms {
		next := sum + m
		lost += roundedOff(sum, m, next)
		sum = next
	}
	return sum + lost
}

// roundedOff is what a + b has beyond sum. From 2^53 on a part is rounded at
// every step, and without this the total would hang on the order of the steps.
func roundedOff(a, b, sum complex128) complex128 {
	added := sum - a
	return (a - (sum - added)) + (b - added)
}

// Less is a less b, part by part: a part may come out below 0.
func Less(a, b complex128) complex128 { return a - b }

// Fits tells whether neither part of a is greater than that of b.
func Fits(a, b complex128) bool {
	return real(a) <= real(b) && imag(a) <= imag(b)
}

// Line is the mark of s as one line: its line end counts, though s lacks it.
func Line(s string) complex128 { return Of(1, len(s)+1) }

// Text is the mark of a whole text: a last line without a line end is a line, too.
func Text(s string) complex128 {
	lines := strings.Count(s, "\n")
	if s != "" && !strings.HasSuffix(s, "\n") {
		lines++
	}
	return Of(lines, len(s))
}
