package way

import (
	"math/rand"
	"slices"
	"strings"
	"testing"

	"gloss/api"
	"gloss/bset"
	"gloss/rx"
)

// plain goes all ways one by one, as the chapter says them, and keeps no sets.
type plain struct {
	s     string
	bol   bool
	steps int // that may still be gone
}

func (p *plain) walk(r api.Rx, x State, then func(State)) {
	if p.steps--; p.steps < 0 {
		return
	}
	switch r.Kind {
	case api.RSet:
		if x.At < len(p.s) && bset.Has(r.Set, p.s[x.At]) {
			then(State{x.At + 1, x.Match})
		}
	case api.RBegin:
		if x.At == 0 && p.bol {
			then(x)
		}
	case api.REnd:
		if x.At == len(p.s) {
			then(x)
		}
	case api.RBack:
		if g := x.Match[r.N]; g.From >= 0 && strings.HasPrefix(p.s[x.At:], p.s[g.From:g.To]) {
			then(State{x.At + g.To - g.From, x.Match})
		}
	case api.RGroup:
		p.walk(r.Kids[0], x, func(y State) {
			y.Match[r.N] = api.Span{From: x.At, To: y.At}
			then(y)
		})
	case api.RAlt:
		for _, kid := range r.Kids {
			p.walk(kid, x, then)
		}
	case api.RCat:
		if len(r.Kids) == 0 {
			then(x)
			return
		}
		p.walk(r.Kids[0], x, func(y State) { p.walk(cat(r.Kids[1:]...), y, then) })
	case api.RRep:
		p.behind(r, 0, x, then)
	}
}

func (p *plain) behind(r api.Rx, n int, x State, then func(State)) {
	if n < r.Max || r.Max == -1 {
		p.walk(r.Kids[0], x, func(y State) {
			if y.At != x.At || n < r.Min {
				p.behind(r, n+1, y, then)
			}
		})
	}
	if n >= r.Min {
		then(x)
	}
}

// plainWays are all states, each once; false, if they are too many to be gone through.
func plainWays(r api.Rx, s string, bol bool, at int) ([]State, bool) {
	p := plain{s: s, bol: bol, steps: 20000}
	var l []State
	seen := map[State]bool{}
	p.walk(r, State{at, None()}, func(x State) {
		if !seen[x] {
			l = append(l, x)
		}
		seen[x] = true
	})
	return l, p.steps >= 0
}

// wantPlain asks that the ways of r are those that are gone one by one. It tells whether these are few enough.
func wantPlain(t *testing.T, r api.Rx, s string, bol bool, at int) bool {
	t.Helper()
	want, ok := plainWays(r, s, bol, at)
	if !ok {
		return false
	}
	if got := Ways(r, s, bol, at); !slices.Equal(got, want) {
		t.Errorf("%s over %q from %d, %v: %s; not %s", rx.Print(r, true), s, at, bol, told(got), told(want))
	}
	wantEnds(t, r, s, bol, at, placesOf(want))
	wantFarthest(t, r, s, bol, at, want)
	return true
}

// wantFarthest asks for the first of those of all states that end farthest.
func wantFarthest(t *testing.T, r api.Rx, s string, bol bool, at int, all []State) {
	t.Helper()
	var want State
	for i, x := range all {
		if i == 0 || x.At > want.At {
			want = x
		}
	}
	w := Over(r, s, bol)
	// What is known from other places makes no difference.
	for i := range len(s) + 1 {
		w.Farthest(len(s) - i)
	}
	for _, w := range []Walk{w, Over(r, s, bol)} {
		if got, ok := w.Farthest(at); ok != (len(all) > 0) || got != want {
			t.Errorf("%s over %q from %d, %v: farthest %v, %v; not %v", rx.Print(r, true), s, at, bol, got, ok, want)
		}
	}
}

// grown are rows, choices, repetitions and groups of one or two of small.
func grown(small []api.Rx) []api.Rx {
	l := slices.Clone(small)
	for _, x := range small {
		l = append(l, rep(0, -1, x), rep(1, -1, x), rep(0, 1, x), rep(2, 2, x), rep(1, 3, x), rep(2, -1, x), group(1, x), group(2, x))
		for _, y := range small {
			l = append(l, cat(x, y), alt(x, y))
		}
	}
	return l
}

func TestSmallExpressionsGoAsThePlainOnes(t *testing.T) {
	few := []api.Rx{cat(), set("a"), set("b"), dot(), backTo(1), first(), last()}
	count := 0
	for _, r := range grown(grown(few)) {
		if !rx.Right(r, true) {
			continue
		}
		count++
		for _, s := range []string{"", "a", "aab", "abba"} {
			wantPlain(t, r, s, true, 0)
			wantPlain(t, r, s, false, len(s)/2)
		}
	}
	if count < 3000 {
		t.Error(count)
	}
}

// grower makes expressions by chance.
type grower struct {
	*rand.Rand
	groups int // that have begun
}

func (g *grower) one(deep int) api.Rx {
	kind := g.Intn(12)
	switch {
	case kind < 3 && deep > 0:
		low, n := g.Intn(3), 0
		if g.groups < api.MaxGroups && g.Intn(4) > 0 {
			n = 1
		}
		high := -1
		if g.Intn(2) > 0 {
			high = max(low, 1) + g.Intn(2)
		}
		if n == 1 {
			return rep(low, high, g.group(deep-1))
		}
		return rep(low, high, set("ab"[g.Intn(2):]))
	case kind < 6 && deep > 0 && g.groups < api.MaxGroups:
		return g.group(deep - 1)
	case kind < 8 && g.groups > 0:
		return backTo(1 + g.Intn(g.groups))
	case kind == 8:
		return []api.Rx{first(), last()}[g.Intn(2)]
	}
	return set([]string{"a", "b", "ab"}[g.Intn(3)])
}

func (g *grower) group(deep int) api.Rx {
	g.groups++
	n := g.groups
	return group(n, g.choice(deep))
}

func (g *grower) row(deep int) api.Rx {
	n := g.Intn(4)
	if n == 1 {
		return g.one(deep)
	}
	r := cat()
	for range n {
		r.Kids = append(r.Kids, g.one(deep))
	}
	return r
}

func (g *grower) choice(deep int) api.Rx {
	if g.Intn(2) > 0 {
		return g.row(deep)
	}
	r := alt(g.row(deep))
	for range 1 + g.Intn(2) {
		r.Kids = append(r.Kids, g.row(deep))
	}
	return r
}

func TestExpressionsByChanceGoAsThePlainOnes(t *testing.T) {
	chance := rand.New(rand.NewSource(5))
	count := 0
	for range 20000 {
		g := grower{Rand: chance}
		r := g.choice(4)
		if !rx.Right(r, true) {
			continue
		}
		s := []byte("aaaaaaaa")[:chance.Intn(9)]
		for i := range s {
			s[i] += byte(chance.Intn(2) & chance.Intn(2))
		}
		if wantPlain(t, r, string(s), chance.Intn(4) > 0, chance.Intn(len(s)+1)/2) {
			count++
		}
	}
	if count < 10000 {
		t.Error(count)
	}
}

func FuzzWays(f *testing.F) {
	for _, s := range []string{"a*", "(a|ab)(c|bcd)", "((a*)*)*", `(a|b\1){2,}$`, `((a)|\2b?)*\1`, "^(|a|(b)*)+", "((((((", "[^a]{1,20}"} {
		f.Add(s, "aabcd", 0, true)
		f.Add(s, "abab", 1, false)
	}
	f.Fuzz(func(t *testing.T, e, s string, at int, bol bool) {
		r, _, err := rx.Parse(e, true)
		if err != api.OK || len(s) > api.MaxSpace || at < 0 || at > len(s) {
			wantNothing(t, e, r, s, at)
			return
		}
		wantPlain(t, r, s, bol, at)
	})
}
