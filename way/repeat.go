package way

import "slices"

// repeater goes over a text with a repetition's kid, again and again.
type repeater struct {
	walker
	part  *part
	begun map[turn]struct{}
	ends  row
}

// turn is where one more of the kid begins, behind n of them, of which those ways are gone that leave these groups, of all that make a difference, as they were.
type turn struct {
	n      int8
	leaves groups
	from   spot // with no more spans than those that make a difference
}

func (w walker) rep(p *part, x spot) []spot {
	r := repeater{walker: w, part: p, begun: map[turn]struct{}{}, ends: row{heeds: p.heeds}}
	r.behind(0, x)
	return r.ends.list
}

// behind goes on from x, behind n of the kid.
func (r *repeater) behind(n int, x spot) {
	enough := n >= r.part.low
	for _, y := range r.next(n, x) {
		if !enough || y.at != x.at {
			r.behind(n+1, y)
		}
	}
	if enough {
		r.ends.add(x)
	}
}

// next is what comes of one more of the kid from x, but for that of which all has come before.
func (r *repeater) next(n int, x spot) []spot {
	kid := r.part.kids[0]
	switch {
	case n == r.part.high:
		return nil
	case kid.leaf():
		return r.leaf(kid, x)
	case r.part.high < 0:
		// Without an end to count to, all that are enough are alike.
		n = min(n, r.part.low)
	}
	all := r.sorted(kid, x.only(kid.use.reads))
	var next []spot
	for _, i := range r.unbegun(all, n, x) {
		next = append(next, all.list[i].behind(x))
	}
	return next
}

// unbegun are the places, rising, of those ways of the kid that are new behind n of it: spots that are apart only by spans which a way sets anew have the same way.
func (r *repeater) unbegun(all *sorted, n int, x spot) []int {
	var places []int
	for i := range all.places {
		l, leaves := all.places[i], groups(i)
		if len(l) > 0 && r.begins(turn{int8(n), leaves, x.only(leaves | r.part.use.reads)}) {
			places = append(places, l...)
		}
	}
	slices.Sort(places)
	return places
}

// begins tells whether t is new.
func (r *repeater) begins(t turn) bool {
	_, there := r.begun[t]
	r.begun[t] = struct{}{}
	return !there
}

// sorted are spots, and for each set of groups the places of those that lack just their spans, of all that make a difference.
type sorted struct {
	list   []spot
	places [groupSets][]int
}

func (w walker) sorted(p *part, x spot) *sorted {
	if s, there := p.sorted[x]; there {
		return s
	}
	s := &sorted{list: w.ways(p, x)}
	for i, y := range s.list {
		g := y.lacks() & p.heeds
		s.places[g] = append(s.places[g], i)
	}
	p.sorted[x] = s
	return s
}
