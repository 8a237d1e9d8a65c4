package rx

import (
	"slices"

	"gloss/api"
	"gloss/bset"
)

// Right tells whether r is an expression, extended or basic.
func Right(r api.Rx, ere bool) bool {
	c := checker{ere: ere}
	return c.right(r, place{begins: true, ends: true})
}

// checker goes over an expression from left to right.
type checker struct {
	ere    bool
	nodes  int
	groups int // that have begun
	deep   int // groups that are open
}

// place tells where an expression stands in the whole, or in the group that it is in.
type place struct{ begins, ends bool }

// right counts nodes as it comes to them, so that even an expression without an end is left soon.
func (c *checker) right(r api.Rx, at place) bool {
	c.nodes++
	if c.nodes > api.MaxRx || !lean(r) {
		return false
	}
	switch r.Kind {
	case api.RSet:
		return bset.Count(r.Set) > 0
	case api.RCat:
		return c.cat(r.Kids)
	case api.RAlt:
		return c.ere && c.alt(r.Kids)
	case api.RRep:
		return c.rep(r)
	case api.RGroup:
		return c.group(r)
	case api.RBack:
		return 1 <= r.N && r.N <= c.groups
	case api.RBegin:
		return c.ere || at.begins
	case api.REnd:
		return c.ere || at.ends
	}
	return false
}

// lean tells whether r is zero in all that its kind doesn't ask.
func lean(r api.Rx) bool {
	asks := api.Rx{Kind: r.Kind}
	switch r.Kind {
	case api.RSet:
		asks.Set = r.Set
	case api.RRep:
		asks.Min, asks.Max = r.Min, r.Max
	case api.RGroup, api.RBack:
		asks.N = r.N
	}
	kids := r.Kids
	r.Kids = nil
	return Same(r, asks) && kidsFit(r.Kind, len(kids))
}

// kidsFit tells whether an expression of that kind may have n kids.
func kidsFit(kind, n int) bool {
	switch kind {
	case api.RCat:
		return n != 1
	case api.RAlt:
		return n >= 2
	case api.RRep, api.RGroup:
		return n == 1
	}
	return n == 0
}

// cat needs no place of its own: in a basic expression a row is the whole, or all that is in a group.
func (c *checker) cat(kids []api.Rx) bool {
	for i, kid := range kids {
		if kid.Kind == api.RCat || kid.Kind == api.RAlt {
			return false
		}
		if !c.right(kid, place{begins: i == 0, ends: i == len(kids)-1}) {
			return false
		}
	}
	return true
}

func (c *checker) alt(kids []api.Rx) bool {
	return !slices.ContainsFunc(kids, func(kid api.Rx) bool {
		return kid.Kind == api.RAlt || !c.right(kid, place{})
	})
}

func (c *checker) rep(r api.Rx) bool {
	return timesFit(r.Min, r.Max) && repeatable(r.Kids[0].Kind) && c.right(r.Kids[0], place{})
}

// timesFit tells whether there is a repetition from low to high times.
func timesFit(low, high int) bool {
	if low < 0 || low > api.MaxRep {
		return false
	}
	return high == noEnd || max(low, 1) <= high && high <= api.MaxRep
}

func (c *checker) group(r api.Rx) bool {
	c.groups++
	if r.N != c.groups || c.groups > api.MaxGroups || c.deep == api.MaxDeep {
		return false
	}
	c.deep++
	ok := c.right(r.Kids[0], place{begins: true, ends: true})
	c.deep--
	return ok
}
