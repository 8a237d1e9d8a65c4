package way

import (
	"slices"

	"gloss/api"
)

// spot is a State in few bytes: there may be millions of them, and each is held against the others.
type spot struct {
	at    int8
	spans [api.MaxGroups]span // group N's at place N-1
}

// span of a group, or -1, -1. Its places fit, because no text has more than MaxSpace bytes.
type span struct{ from, to int8 }

func (g span) none() bool { return g.from < 0 }

// start is place at, where no group has a span.
func start(at int) spot { return spot{at: int8(at)}.only(0) }

func (x spot) state() State {
	m := None()
	for i, g := range x.spans {
		m[1+i] = api.Span{From: int(g.from), To: int(g.to)}
	}
	return State{At: int(x.at), Match: m}
}

// moved is x, n bytes further.
func (x spot) moved(n int) spot {
	x.at += int8(n)
	return x
}

// only is x with the spans of these groups and no others.
func (x spot) only(g groups) spot {
	if g == everyGroup {
		return x
	}
	for i := range x.spans {
		if !g.has(1 + i) {
			x.spans[i] = span{from: -1, to: -1}
		}
	}
	return x
}

// lacks are the groups without a span.
func (x spot) lacks() groups {
	var g groups
	for i := range x.spans {
		if x.spans[i].none() {
			g |= oneGroup(1 + i)
		}
	}
	return g
}

// behind is x where it was come to from y: the spans that it lacks are y's.
func (x spot) behind(y spot) spot {
	for i := range x.spans {
		if x.spans[i].none() {
			x.spans[i] = y.spans[i]
		}
	}
	return x
}

// few spots are sooner held against each other one by one than by a map.
const few = 8

// row is a set of spots, in the order in which they came. Of those that are apart only by spans which make no difference it has the first.
type row struct {
	heeds  groups // whose spans make a difference
	list   []spot
	places uint64            // bit i: there is one at place i
	seen   map[spot]struct{} // what tells the spots apart, if they are more than few
}

// add puts x behind the others, unless it is there.
func (l *row) add(x spot) {
	key := x.only(l.heeds)
	if l.has(key) {
		return
	}
	l.list = append(l.list, x)
	l.places |= 1 << x.at
	switch {
	case len(l.list) <= few || l.heeds == noGroup:
	case l.seen == nil:
		l.seen = map[spot]struct{}{}
		for _, y := range l.list {
			l.seen[y.only(l.heeds)] = struct{}{}
		}
	default:
		l.seen[key] = struct{}{}
	}
}

func (l *row) has(key spot) bool {
	switch {
	case l.places>>key.at&1 == 0:
		return false
	case l.heeds == noGroup:
		return true
	case l.seen == nil:
		return slices.ContainsFunc(l.list, func(x spot) bool { return x.only(l.heeds) == key })
	}
	_, there := l.seen[key]
	return there
}
