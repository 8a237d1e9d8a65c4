package rx

import (
	"strings"

	"gloss/api"
	"gloss/bset"
)

// Parse reads s as an expression: it, or the byte at which s isn't one, and why.
func Parse(s string, ere bool) (api.Rx, int, api.Errno) {
	p := reader{text: s, ere: ere}
	r, err := p.whole()
	if err != api.OK {
		return api.Rx{}, p.at, err
	}
	return r, 0, api.OK
}

// reader reads a text from left to right; where it stops is where a fault is.
type reader struct {
	text   string
	ere    bool
	at     int
	nodes  int // that were read
	groups int // that have begun
	deep   int // groups that are open
}

func (p *reader) whole() (api.Rx, api.Errno) {
	r, err := p.choice()
	switch {
	case err != api.OK:
		return api.Rx{}, err
	case p.at < len(p.text):
		// Only what closes a group ends a choice ahead of the text's end, and no group is open here.
		return api.Rx{}, api.ErrForm
	case p.nodes > api.MaxRx || p.groups > api.MaxGroups:
		return api.Rx{}, api.ErrBig
	}
	return r, api.OK
}

// choice reads rows with bars between.
func (p *reader) choice() (api.Rx, api.Errno) {
	r, err := p.row()
	if err != api.OK || p.sign().kind != bar {
		return r, err
	}
	kids := []api.Rx{r}
	for p.sign().kind == bar {
		p.at++
		if r, err = p.row(); err != api.OK {
			return api.Rx{}, err
		}
		kids = p.keep(kids, r)
	}
	return p.node(api.Rx{Kind: api.RAlt, Kids: kids}), api.OK
}

// row reads what stands one behind the other.
func (p *reader) row() (api.Rx, api.Errno) {
	var kids []api.Rx
	began := p.at
	for !p.rowEnds() {
		r, err := p.part(began)
		if err != api.OK {
			return api.Rx{}, err
		}
		kids = p.keep(kids, r)
	}
	if len(kids) == 1 {
		return kids[0], api.OK
	}
	return p.node(api.Rx{Kind: api.RCat, Kids: kids}), api.OK
}

func (p *reader) rowEnds() bool {
	kind := p.sign().kind
	return kind == theEnd || kind == bar || kind == shut
}

// part reads one expression and its repetition, in a row that began there.
func (p *reader) part(began int) (api.Rx, api.Errno) {
	r, err := p.one(p.signIn(began))
	if err != api.OK || !repeatable(r.Kind) {
		return r, err
	}
	return p.repeated(r)
}

func (p *reader) sign() sign { return signAt(p.text, p.at, p.ere) }

// signIn is the sign here, in a row that began there: a basic expression holds *, ^ and $ to be bytes by where they stand.
func (p *reader) signIn(began int) sign {
	g := p.sign()
	if p.ere {
		return g
	}
	plain := false
	switch g.kind {
	case star:
		plain = p.at == began || p.at == began+1 && p.text[began] == '^'
	case begin:
		plain = p.at != began
	case end:
		next := signAt(p.text, p.at+1, p.ere).kind
		plain = next != theEnd && next != shut
	}
	if plain {
		g.kind = itself
	}
	return g
}

// one reads the expression that begins with g.
func (p *reader) one(g sign) (api.Rx, api.Errno) {
	switch g.kind {
	case itself:
		return p.take(g, oneOf(bset.Of(g.b)))
	case point:
		return p.take(g, oneOf(bset.Not(api.Set{})))
	case begin:
		return p.take(g, api.Rx{Kind: api.RBegin})
	case end:
		return p.take(g, api.Rx{Kind: api.REnd})
	case back:
		return p.back(g)
	case bracket:
		return p.bracket()
	case open:
		return p.group(g)
	}
	return api.Rx{}, api.ErrForm
}

// take goes behind g, which stands for r.
func (p *reader) take(g sign, r api.Rx) (api.Rx, api.Errno) {
	p.at += g.size
	return p.node(r), api.OK
}

func (p *reader) back(g sign) (api.Rx, api.Errno) {
	n := int(g.b - '0')
	if n < 1 || n > p.groups {
		return api.Rx{}, api.ErrForm
	}
	return p.take(g, api.Rx{Kind: api.RBack, N: n})
}

func (p *reader) group(g sign) (api.Rx, api.Errno) {
	if p.deep == api.MaxDeep {
		return api.Rx{}, api.ErrDeep
	}
	p.at += g.size
	p.deep++
	p.groups++
	n := p.groups
	kid, err := p.choice()
	if err != api.OK {
		return api.Rx{}, err
	}
	closing := p.sign()
	if closing.kind != shut {
		return api.Rx{}, api.ErrForm
	}
	p.deep--
	return p.take(closing, api.Rx{Kind: api.RGroup, N: n, Kids: []api.Rx{kid}})
}

// repeated reads the repetition of r, if there is one. A second one is left to the row, which finds that nothing begins so.
func (p *reader) repeated(r api.Rx) (api.Rx, api.Errno) {
	g := p.sign()
	low, high, ok := 0, noEnd, true
	switch g.kind {
	default:
		return r, api.OK
	case star:
	case plus:
		low = 1
	case ask:
		high = 1
	case brace:
		low, high, ok = p.interval(g)
		g.size = 0
	}
	if !ok {
		return api.Rx{}, api.ErrForm
	}
	return p.take(g, api.Rx{Kind: api.RRep, Min: low, Max: high, Kids: []api.Rx{r}})
}

// interval reads from its brace to behind the one that closes it.
func (p *reader) interval(g sign) (low, high int, ok bool) {
	from := p.at
	p.at += g.size
	low, ok = p.number()
	high = low
	if ok && p.takes(",") {
		if high, ok = p.number(); !ok {
			high, ok = noEnd, true
		}
	}
	closing := "}"
	if !p.ere {
		closing = "\\}"
	}
	if !ok || !p.takes(closing) {
		return 0, 0, false
	}
	if !timesFit(low, high) {
		p.at = from
		return 0, 0, false
	}
	return low, high, true
}

// number reads digits, if there are some. One that is beyond all repetitions is not told exactly.
func (p *reader) number() (n int, ok bool) {
	digits := bset.Range('0', '9')
	for p.at < len(p.text) && bset.Has(digits, p.text[p.at]) {
		n, ok = min(10*n+int(p.text[p.at]-'0'), api.MaxRep+1), true
		p.at++
	}
	return n, ok
}

// takes goes behind s, if it stands here.
func (p *reader) takes(s string) bool {
	if !strings.HasPrefix(p.text[p.at:], s) {
		return false
	}
	p.at += len(s)
	return true
}

func (p *reader) node(r api.Rx) api.Rx {
	p.nodes++
	return r
}

// keep lays r to the others. When there are too many nodes, nothing will be answered: then only their number goes on, and no memory.
func (p *reader) keep(kids []api.Rx, r api.Rx) []api.Rx {
	if p.nodes > api.MaxRx {
		return kids
	}
	return append(kids, r)
}
