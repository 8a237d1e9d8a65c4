package way

import (
	"strings"

	"gloss/api"
	"gloss/bset"
)

// walker goes over one text.
type walker struct {
	text string
	bol  bool
}

// walk adds to l the spots in which p may end from x, in order.
func (w walker) walk(p *part, x spot, l *row) {
	for _, y := range w.ways(p, x.only(p.use.reads)) {
		l.add(y.behind(x))
	}
}

// ways are the spots in which p may end from x, which has spans of the groups alone that p reads.
func (w walker) ways(p *part, x spot) []spot {
	if p.leaf() {
		return w.leaf(p, x)
	}
	// They are kept: else repetitions in one another would go over the same bytes again and again.
	l, there := p.known[x]
	if !there {
		l = w.found(p, x)
		p.known[x] = l
	}
	return l
}

func (w walker) found(p *part, x spot) []spot {
	switch p.kind {
	case api.RCat:
		return w.cat(p.kids, x)
	case api.RAlt:
		return w.alt(p, x)
	case api.RGroup:
		return w.group(p, x)
	}
	return w.rep(p, x)
}

func (w walker) leaf(p *part, x spot) []spot {
	if n, ok := w.step(p, x); ok {
		return []spot{x.moved(n)}
	}
	return nil
}

// step is how many bytes a leaf goes over; false, if it doesn't.
func (w walker) step(p *part, x spot) (int, bool) {
	rest := w.text[x.at:]
	switch p.kind {
	case api.RSet:
		return 1, rest != "" && bset.Has(p.set, rest[0])
	case api.RBegin:
		return 0, x.at == 0 && w.bol
	case api.REnd:
		return 0, rest == ""
	}
	g := x.spans[p.n-1]
	if g.none() {
		return 0, false
	}
	said := w.text[g.from:g.to]
	return len(said), strings.HasPrefix(rest, said)
}

func (w walker) cat(kids []*part, x spot) []spot {
	l := []spot{x}
	for _, kid := range kids {
		next := row{heeds: kid.heeds}
		for _, y := range l {
			w.walk(kid, y, &next)
		}
		l = next.list
	}
	return l
}

func (w walker) alt(p *part, x spot) []spot {
	l := row{heeds: p.heeds}
	for _, kid := range p.kids {
		w.walk(kid, x, &l)
	}
	return l.list
}

// group needs no set: no two ways of its kid are apart by its own span.
func (w walker) group(p *part, x spot) []spot {
	var l []spot
	for _, y := range w.ways(p.kids[0], x) {
		y.spans[p.n-1] = span{from: x.at, to: y.at}
		l = append(l, y)
	}
	return l
}
