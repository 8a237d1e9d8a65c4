package rope

import "gloss/mark"

// measure is a sum of marks, and what rounding took from it. From 2^53 on a
// complex number can't hold every count, and without the rest a sum of sums
// would be another one than the sum of the marks themselves.
type measure struct{ sum, rest complex128 }

func add(a, b measure) measure {
	sum := mark.Sum(a.sum, b.sum, a.rest, b.rest)
	rest := mark.Sum(a.sum, b.sum, a.rest, b.rest, mark.Less(0, sum))
	return measure{sum, rest}
}
