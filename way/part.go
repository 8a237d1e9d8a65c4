package way

import (
	"slices"

	"gloss/api"
)

// groups is a set of groups: bit N-1 is group N's.
type groups uint8

// groupSets is how many sets of groups there are.
const groupSets = 1 << api.MaxGroups

const (
	noGroup    groups = 0
	everyGroup groups = groupSets - 1
)

func oneGroup(n int) groups { return 1 << (n - 1) }

func (g groups) has(n int) bool { return g&oneGroup(n) != 0 }

// part is an expression, with what is known of its groups and of its ways.
type part struct {
	kind, low, high, n int
	set                api.Set
	kids               []*part
	use                use
	heeds              groups           // whose spans make a difference behind it
	known              map[spot][]spot  // where they end, by where they begin
	sorted             map[spot]*sorted // the same, for a repetition of p
}

// use is what a part does with groups.
type use struct {
	reads groups // as they were ahead of it, on some way
	sets  groups // on every way
}

// build makes parts of an expression that is right.
func build(r api.Rx) *part {
	p := &part{kind: r.Kind, low: r.Min, high: r.Max, n: r.N, set: r.Set}
	if !p.leaf() {
		p.known = map[spot][]spot{}
		p.sorted = map[spot]*sorted{}
	}
	for _, kid := range r.Kids {
		p.kids = append(p.kids, build(kid))
	}
	p.use = p.used()
	return p
}

// heed says of which groups the spans make a difference behind p. Others needn't be told apart: where a group is set anew, or isn't read any more, all that comes of them is alike.
func (p *part) heed(g groups) {
	p.heeds = g
	switch p.kind {
	case api.RCat:
		for _, kid := range slices.Backward(p.kids) {
			kid.heed(g)
			g = g&^kid.use.sets | kid.use.reads
		}
	case api.RAlt:
		for _, kid := range p.kids {
			kid.heed(g)
		}
	case api.RGroup:
		p.kids[0].heed(g &^ oneGroup(p.n))
	case api.RRep:
		// One more of the kid may follow.
		p.kids[0].heed(g | p.use.reads)
	}
}

// leaf tells whether p goes over the text by itself.
func (p *part) leaf() bool {
	switch p.kind {
	case api.RCat, api.RAlt, api.RGroup, api.RRep:
		return false
	}
	return true
}

// used is told of the kids' uses.
func (p *part) used() use {
	switch p.kind {
	case api.RBack:
		return use{reads: oneGroup(p.n)}
	case api.RGroup:
		// It sets its span at its end: what the kid reads of it is the one ahead.
		u := p.kids[0].use
		u.sets |= oneGroup(p.n)
		return u
	case api.RCat:
		return inRow(p.kids)
	case api.RAlt:
		return inChoice(p.kids)
	case api.RRep:
		u := p.kids[0].use
		if p.low == 0 {
			u.sets = 0
		}
		return u
	}
	return use{}
}

func inRow(kids []*part) use {
	var u use
	for _, kid := range kids {
		u.reads |= kid.use.reads &^ u.sets
		u.sets |= kid.use.sets
	}
	return u
}

func inChoice(kids []*part) use {
	u := use{sets: everyGroup}
	for _, kid := range kids {
		u.reads |= kid.use.reads
		u.sets &= kid.use.sets
	}
	return u
}
