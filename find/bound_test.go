package find

import (
	"math"
	"slices"
	"strings"
	"testing"

	"gloss/api"
	"gloss/rx"
	"gloss/way"
)

func TestTextsOfMaxSpaceBytes(t *testing.T) {
	most := strings.Repeat("a", api.MaxSpace)
	all := rep(0, -1, dot())
	wantFirst(t, all, most, 0, "0-60")
	wantFirst(t, dot(), most, api.MaxSpace-1, "59-60")
	wantFirst(t, dot(), most, api.MaxSpace, "")
	wantFirst(t, last(), most, 0, "60-60")
	wantAll(t, all, most, "0-60")
	if l := All(dot(), most); len(l) != api.MaxSpace || told(l[0], l[59]) != "0-1, 59-60" {
		t.Error(told(l...))
	}
	if l := All(cat(), most); len(l) != 1+api.MaxSpace || told(l[0], l[60]) != "0-0, 60-60" {
		t.Error(told(l...))
	}
	for _, long := range []string{most + "a", most + most, strings.Repeat("a", 256), strings.Repeat("a", 1<<20)} {
		for _, r := range []api.Rx{cat(), dot(), set("a"), all, first(), last()} {
			wantNothing(t, len(long), r, long)
		}
	}
}

// wantNothing asks that there is no match, from wherever.
func wantNothing(t *testing.T, what any, r api.Rx, s string) {
	t.Helper()
	for _, from := range []int{math.MinInt, -1, 0, 1, len(s) / 2, api.MaxSpace, len(s) - 1, len(s), len(s) + 1, math.MaxInt} {
		if m, ok := First(r, s, from); ok || m != way.None() {
			t.Errorf("%v: first %v", what, m)
		}
	}
	if Has(r, s) {
		t.Errorf("%v: has", what)
	}
	if l := All(r, s); l != nil {
		t.Errorf("%v: all %v", what, l)
	}
}

func TestWrongExpressionsDontMatch(t *testing.T) {
	a := set("a")
	big := cat()
	for range api.MaxRx {
		big.Kids = append(big.Kids, a)
	}
	round := []api.Rx{a, {}}
	round[1] = api.Rx{Kind: api.RGroup, N: 1, Kids: round[1:]}
	for i, r := range []api.Rx{
		{}, {Kind: -1}, {Kind: api.REnd + 1}, {Kind: math.MaxInt}, {Kind: api.RSet}, {Kind: api.RSet, Set: a.Set, N: 1}, {Kind: api.RBegin, Kids: []api.Rx{a}},
		cat(a), cat(a, cat(a, a)), cat(a, api.Rx{}), alt(), alt(a), alt(a, alt(a, a)), alt(a, api.Rx{}), big, cat(round...), round[1],
		rep(0, 0, a), rep(2, 1, a), rep(-1, 1, a), rep(0, -2, a), rep(0, api.MaxRep+1, a), rep(0, -1, rep(0, -1, a)), rep(0, -1, cat()), rep(0, -1, last()), {Kind: api.RRep, Max: -1},
		group(0, a), group(2, a), group(math.MaxInt, a), cat(group(1, a), group(1, a)), cat(group(1, a), group(2, a), group(3, a), group(4, a)), {Kind: api.RGroup, N: 1},
		backTo(1), backTo(0), backTo(-1), cat(group(1, a), backTo(2)), cat(backTo(1), group(1, a)),
	} {
		if rx.Right(r, true) {
			t.Fatal(i, r)
		}
		for _, s := range []string{"", "a", "aaa", strings.Repeat("a", api.MaxSpace), strings.Repeat("a", api.MaxSpace+1)} {
			wantNothing(t, i, r, s)
		}
	}
}

// Of these there are more ways than anybody can go through.
func TestMatchesOfManyWaysAreFound(t *testing.T) {
	as := strings.Repeat("a", api.MaxSpace)
	wantFirsts(t,
		query{".*(.*).*(.*).*(.*).*", as, 0, "0-60 1:60-60 2:60-60 3:60-60"}, query{"(((a*)*)*)*", as, 0, "0-60 1:0-60 2:0-60 3:0-60"}, query{"((a*)*(a*)*)*b", as, 0, ""}, query{"(((a{0,20}){0,20}){0,20}){0,20}", as, 0, "0-60 1:0-60 2:0-60 3:40-60"},
		query{".*(a*).*(a*).*(a*).*b", as, 0, ""}, query{".*(a).*(a).*(a).*", as, 3, "3-60 1:57-58 2:58-59 3:59-60"}, query{`.*(.+).*\1.*(.+).*\2.*(.+).*\3`, as, 0, "0-60 1:54-55 2:56-57 3:58-59"},
	)
	wantAlls(t, ".*(.*).*(.*).*(.*).*", as, "0-60 1:60-60 2:60-60 3:60-60", "((a*)*(a*)*)*b", as, "", "((a*)*(a*)*)*b", as[:20]+"b"+as[:20]+"b", "0-21 1:0-20 2:0-20, 21-42 1:21-41 2:21-41")
}

// R2

// copyOf is r with lists of its own that have room behind them, with something in it.
func copyOf(r api.Rx) api.Rx {
	kids := make([]api.Rx, 0, len(r.Kids)+2)
	for _, kid := range r.Kids {
		kids = append(kids, copyOf(kid))
	}
	spare := kids[len(kids):cap(kids)]
	for i := range spare {
		spare[i] = set("spare")
	}
	r.Kids = kids
	return r
}

// sameRoom tells whether a and b are alike, with the room behind their lists.
func sameRoom(a, b api.Rx) bool {
	shallow := func(a, b api.Rx) bool { a.Kids, b.Kids = nil, nil; return rx.Same(a, b) }
	if !shallow(a, b) || len(a.Kids) != len(b.Kids) {
		return false
	}
	for i := range a.Kids {
		if !sameRoom(a.Kids[i], b.Kids[i]) {
			return false
		}
	}
	return slices.EqualFunc(a.Kids[len(a.Kids):cap(a.Kids)], b.Kids[len(b.Kids):cap(b.Kids)], shallow)
}

func TestWhatIsHandedInStaysAsItWas(t *testing.T) {
	for _, s := range []string{`(a*|b)*(\1c?)+[x-z]{2,3}()|^$`, "((a|b)*c)*", `(a)\1{2}`, "a*"} {
		r, kept := copyOf(ere(t, s)), copyOf(ere(t, s))
		for from := -1; from <= 7; from++ {
			First(r, "aabcab", from)
		}
		All(r, "aabcab")
		Has(r, "aabcab")
		if !sameRoom(r, kept) {
			t.Error(s, r)
		}
	}
}

func TestWhatIsHandedOutSharesNothing(t *testing.T) {
	for _, s := range []string{"a|b", "(a*)b", "", "b*"} {
		r := ere(t, s)
		l := All(r, "abaab")
		want, again := slices.Clone(l), All(r, "abaab")
		for i := range l[:cap(l)] {
			l[:cap(l)][i] = api.Match{{From: -7}}
		}
		if !slices.Equal(again, want) {
			t.Error(s, "two answers share memory")
		}
		if !slices.Equal(All(r, "abaab"), want) {
			t.Error(s, "a later answer hangs on an earlier one")
		}
	}
}
