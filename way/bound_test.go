package way

import (
	"math"
	"slices"
	"strings"
	"testing"

	"gloss/api"
	"gloss/rx"
)

// wantNothing asks that there is no answer.
func wantNothing(t *testing.T, what any, r api.Rx, s string, at int) {
	t.Helper()
	for _, bol := range []bool{false, true} {
		if l := Ways(r, s, bol, at); l != nil {
			t.Errorf("%v: ways %v", what, l)
		}
		if l := Ends(r, s, bol, at); l != nil {
			t.Errorf("%v: ends %v", what, l)
		}
		if x, ok := Over(r, s, bol).Farthest(at); ok || x != (State{}) {
			t.Errorf("%v: farthest %v", what, x)
		}
	}
}

func TestPlacesOutOfTheText(t *testing.T) {
	for _, r := range []api.Rx{cat(), dot(), rep(0, -1, dot()), first(), last(), group(1, cat())} {
		for _, s := range []string{"", "ab", strings.Repeat("a", api.MaxSpace)} {
			for _, at := range []int{-1, -2, len(s) + 1, len(s) + 2, len(s) + 128, len(s) + 256, 1 << 32, -1 << 32, math.MaxInt, math.MinInt} {
				wantNothing(t, at, r, s, at)
			}
		}
	}
	for _, s := range []string{"", "ab", strings.Repeat("a", api.MaxSpace)} {
		for at := 0; at <= len(s); at++ {
			if l := Ways(cat(), s, false, at); len(l) != 1 || l[0].At != at || l[0].Match != None() {
				t.Error(len(s), at, l)
			}
			wantEnds(t, cat(), s, false, at, []int{at})
		}
	}
}

func TestTextsOfMaxSpaceBytes(t *testing.T) {
	most := strings.Repeat("a", api.MaxSpace)
	all := rep(0, -1, dot())
	l := Ways(group(1, all), most, true, 0)
	if len(l) != 1+api.MaxSpace {
		t.Fatal(len(l))
	}
	for i, x := range l {
		if end := api.MaxSpace - i; x.At != end || x.Match[1] != (api.Span{From: 0, To: end}) {
			t.Error(i, x)
		}
	}
	if ends := Ends(all, most, true, 0); len(ends) != 1+api.MaxSpace || !slices.IsSorted(ends) {
		t.Error(ends)
	}
	wantWays(t, dot(), most, false, api.MaxSpace-1, "60")
	wantWays(t, last(), most, false, api.MaxSpace, "60")
	wantWays(t, dot(), most, false, api.MaxSpace, "")
	for _, long := range []string{most + "a", most + most, strings.Repeat("a", 256), strings.Repeat("a", 1<<20)} {
		for _, at := range []int{0, 1, api.MaxSpace, len(long) - 1, len(long)} {
			for _, r := range []api.Rx{cat(), dot(), all, first(), last()} {
				wantNothing(t, len(long), r, long, at)
			}
		}
	}
}

// wrong are expressions that aren't right.
func wrong() []api.Rx {
	a := set("a")
	big := cat()
	for range api.MaxRx {
		big.Kids = append(big.Kids, a)
	}
	round := []api.Rx{a, {}}
	round[1] = api.Rx{Kind: api.RGroup, N: 1, Kids: round[1:]}
	return []api.Rx{
		{}, {Kind: -1}, {Kind: api.REnd + 1}, {Kind: api.RSet}, {Kind: api.RSet, Set: a.Set, N: 1}, {Kind: api.RBegin, Kids: []api.Rx{a}},
		cat(a), cat(a, cat(a, a)), cat(a, api.Rx{}), alt(), alt(a), alt(a, alt(a, a)), big, cat(round...), round[1],
		rep(0, 0, a), rep(2, 1, a), rep(-1, 1, a), rep(0, -2, a), rep(0, api.MaxRep+1, a), rep(api.MaxRep+1, -1, a), rep(0, -1, rep(0, -1, a)), rep(0, -1, cat()), rep(0, -1, first()), {Kind: api.RRep, Max: -1},
		group(0, a), group(2, a), group(-1, a), group(math.MaxInt, a), cat(group(1, a), group(1, a)), cat(group(1, a), group(2, a), group(3, a), group(4, a)), {Kind: api.RGroup, N: 1},
		backTo(1), backTo(0), backTo(-1), backTo(math.MinInt), cat(group(1, a), backTo(2)), cat(backTo(1), group(1, a)),
	}
}

func TestWrongExpressionsHaveNoWays(t *testing.T) {
	for i, r := range wrong() {
		if rx.Right(r, true) {
			t.Fatal(i, r)
		}
		for _, s := range []string{"", "a", "aaa", strings.Repeat("a", api.MaxSpace), strings.Repeat("a", api.MaxSpace+1)} {
			for _, at := range []int{-1, 0, 1, len(s), len(s) + 1} {
				wantNothing(t, i, r, s, at)
				wantNothing(t, i, alt(set("a"), r), s, at)
				if Over(r, s, true).Any() {
					t.Error(i, len(s))
				}
			}
		}
	}
}

func TestBasicExpressionsHaveWays(t *testing.T) {
	for _, q := range []query{
		{`a\(b*\)\1$`, "abb", 0, "3 1:1-2"}, {`\(a\{1,2\}\)*`, "aaa", 0, "3 1:2-3, 2 1:0-2, 3 1:1-3, 2 1:1-2, 1 1:0-1, 0"}, {"^*a", "*a", 0, "2"}, {"a|b", "a|b", 0, "3"},
	} {
		r, _, err := rx.Parse(q.r, false)
		if err != api.OK {
			t.Fatal(q.r)
		}
		wantWays(t, r, q.s, true, q.at, q.want)
	}
}

// choose is how many ways there are to take k of n.
func choose(n, k int) int {
	c := 1
	for i := range k {
		c = c * (n - i) / (i + 1)
	}
	return c
}

// Without sets of states these would take longer than anybody waits.
func TestManyWaysEnd(t *testing.T) {
	const n = api.MaxSpace
	as := strings.Repeat("a", n)
	for _, q := range []struct {
		r    string
		ways int
	}{
		{"(a|a)*", n + 1}, {"a*a*a*a*a*a*a*a*a*", n + 1}, {"a{0,20}a{0,20}a{0,20}a{0,20}", n + 1}, {"(a|aa|aaa)*", 1 + n + n - 1 + n - 2}, {"(a*)*", 1 + choose(n+1, 2)}, {"((a|a)*)*", 1 + choose(n+1, 2)}, {"((a*)*)*", 1 + choose(n+2, 3)}, {"(((a|a)*)*)*", 1 + choose(n+2, 3)},
		{"(a*)(a*)(a*)", choose(n+3, 3)}, {`(a*)(a*)(a*)b*\3\2\1b`, 0}, {"(((a*)*)*)*b", 0}, {"((a{0,20}){0,20}){0,20}b", 0},
	} {
		r := ere(t, q.r)
		l := Ways(r, as, true, 0)
		if len(l) != q.ways {
			t.Errorf("%s: %d ways, not %d", q.r, len(l), q.ways)
		}
		if ends := Ends(r, as, true, 0); !slices.Equal(ends, placesOf(l)) {
			t.Errorf("%s: ends %v", q.r, ends)
		}
	}
	// Where they end is known without any of the millions of ways.
	for _, s := range []string{".*(.*).*(.*).*(.*).*", "(((a*)*)*)*", "((a*)*(a*)*)*", "(((a{0,20}){0,20}){0,20}){0,20}", "(a*)*(a*)*(a*)*", "(((a*){20}){20}){20}"} {
		if ends := Ends(ere(t, s), as, true, 0); len(ends) != n+1 || ends[0] != 0 || ends[n] != n {
			t.Error(s, ends)
		}
		if x, ok := Over(ere(t, s), as, true).Farthest(0); !ok || x.At != n {
			t.Error(s, x, ok)
		}
	}
}

// R2

// copyOf is r with lists of its own that have room behind them, with something in it.
func copyOf(r api.Rx) api.Rx {
	kids := make([]api.Rx, 0, len(r.Kids)+2)
	for _, kid := range r.Kids {
		kids = append(kids, copyOf(kid))
	}
	spare := kids[len(kids):cap(kids)]
	for i := range spare {
		spare[i] = set("spare")
	}
	r.Kids = kids
	return r
}

// sameRoom tells whether a and b are alike, with the room behind their lists.
func sameRoom(a, b api.Rx) bool {
	shallow := func(a, b api.Rx) bool { a.Kids, b.Kids = nil, nil; return rx.Same(a, b) }
	if !shallow(a, b) || len(a.Kids) != len(b.Kids) {
		return false
	}
	for i := range a.Kids {
		if !sameRoom(a.Kids[i], b.Kids[i]) {
			return false
		}
	}
	return slices.EqualFunc(a.Kids[len(a.Kids):cap(a.Kids)], b.Kids[len(b.Kids):cap(b.Kids)], shallow)
}

func TestWhatIsHandedInStaysAsItWas(t *testing.T) {
	for _, s := range []string{`(a*|b)*(\1c?)+[x-z]{2,3}()|^$`, "((a|b)*c)*", `(a)\1{2}`} {
		r, kept := copyOf(ere(t, s)), copyOf(ere(t, s))
		for at := range 5 {
			Ways(r, "aabc", true, at)
			Ends(r, "aabc", false, at)
			Over(r, "aabc", true).Farthest(at)
		}
		if !sameRoom(r, kept) {
			t.Error(s, r)
		}
	}
}

func TestWhatIsHandedOutSharesNothing(t *testing.T) {
	for _, s := range []string{"(a|b)*", "a*b*", "a|ab|", "((a*)*)*"} {
		r := ere(t, s)
		l, ends := Ways(r, "abab", true, 0), Ends(r, "abab", true, 0)
		want, places := slices.Clone(l), slices.Clone(ends)
		again, andAgain := Ways(r, "abab", true, 0), Ends(r, "abab", true, 0)
		for i := range l[:cap(l)] {
			l[:cap(l)][i] = State{At: -7}
		}
		for i := range ends[:cap(ends)] {
			ends[:cap(ends)][i] = -7
		}
		if !slices.Equal(again, want) || !slices.Equal(andAgain, places) {
			t.Error(s, "two answers share memory")
		}
		if !slices.Equal(Ways(r, "abab", true, 0), want) || !slices.Equal(Ends(r, "abab", true, 0), places) {
			t.Error(s, "a later answer hangs on an earlier one")
		}
	}
}
