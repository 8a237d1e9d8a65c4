package tpl

import (
	"math"
	"slices"
	"strings"
	"testing"
	"unsafe"

	"gloss/api"
	"gloss/bset"
	"gloss/find"
	"gloss/rx"
)

// R1

func TestWrongExpressionsAreNotSubstituted(t *testing.T) {
	a := api.Rx{Kind: api.RSet, Set: bset.Of('a')}
	star := api.Rx{Kind: api.RRep, Max: -1, Kids: []api.Rx{a}}
	round := []api.Rx{a, {}}
	round[1] = api.Rx{Kind: api.RGroup, N: 1, Kids: round[1:]}
	for i, r := range []api.Rx{
		{}, {Kind: -1}, {Kind: math.MaxInt}, {Kind: api.RSet}, {Kind: api.RSet, Set: a.Set, N: 1}, {Kind: api.RCat, Kids: []api.Rx{a}}, {Kind: api.RAlt, Kids: []api.Rx{a}}, {Kind: api.RRep, Max: -1}, {Kind: api.RRep, Max: -1, Kids: []api.Rx{star}}, {Kind: api.RGroup, N: 2, Kids: []api.Rx{a}}, {Kind: api.RBack, N: 1}, {Kind: api.RCat, Kids: slices.Repeat([]api.Rx{a}, api.MaxRx)}, round[1],
	} {
		if rx.Right(r, true) {
			t.Fatal(i, r)
		}
		for _, s := range []string{"", "a", "aaa", as(api.MaxSpace)} {
			wantSwap(t, r, row(lit("x")), swap{s: s, global: true, want: s})
			wantSwap(t, r, nil, swap{s: s, nth: 1, want: s})
		}
	}
}

func TestLongTextsAreNotSubstituted(t *testing.T) {
	most := as(api.MaxSpace)
	wantSwaps(t, swap{"a", "", most, 1, true, "", true}, swap{"a", "b", most, api.MaxSpace, false, most[1:] + "b", true}, swap{"$", "b", most, 1, false, most + "b", true})
	for _, s := range []string{most + "a", as(api.MaxText), as(api.MaxText + 1), as(1 << 20)} {
		for _, r := range []string{"a", "", "$", "a*"} {
			wantSwaps(t, swap{r, "", s, 1, true, s, false}, swap{r, "b", s, 1, false, s, false})
		}
	}
}

// wrong are lists of pieces that aren't right, of whatever groups.
func wrong() [][]api.Piece {
	return [][]api.Piece{row(lit("")), row(lit("a"), lit("b")), row(group(-2)), row(group(math.MinInt)), row(group(math.MaxInt)), row(api.Piece{Group: 1, Lit: "a"}), row(api.Piece{Group: -3, Lit: "a"}), row(lit(as(api.MaxText + 1))), row(lit(as(1<<20)), lit(as(1<<20))), slices.Repeat(row(lit("")), 1000)}
}

func TestPiecesThatArentRight(t *testing.T) {
	m, _ := find.First(ere(t, "(a)(b)"), "ab", 0)
	for i, l := range wrong() {
		if Right(l, api.MaxGroups) || Right(l, 9) {
			t.Error(i)
		}
		Print(l)
		var want string
		for _, p := range l {
			if p.Group == -1 {
				want += p.Lit
				continue
			}
			want += find.Group(m, "ab", p.Group)
		}
		wantFill(t, l, m, "ab", want)
		fits := len(want) <= api.MaxText
		q := swap{s: "xab", nth: 1, want: "x" + want, ok: fits}
		if !fits {
			q.want = q.s
		}
		wantSwap(t, ere(t, "(a)(b)"), l, q)
	}
	// What isn't in one digit isn't written, since it would be read as something else.
	if got := Print(row(lit("a"), group(10), group(-2), group(math.MaxInt), group(math.MinInt), lit("b"))); got != "ab" {
		t.Error(got)
	}
}

func TestFillOfMatchesThatNoneMade(t *testing.T) {
	l := tpl(t, `&\1\2\3!`)
	for _, g := range []api.Span{{From: -1, To: -1}, {From: -1, To: 2}, {From: 2, To: 1}, {From: 0, To: 4}, {From: 4, To: 4}, {From: math.MinInt, To: math.MaxInt}, {From: math.MaxInt, To: math.MinInt}, {From: math.MaxInt, To: math.MaxInt}} {
		wantFill(t, l, api.Match{g, {From: 1, To: 3}, g, g}, "abc", "bc!")
		wantFill(t, l, api.Match{g, g, g, g}, "", "!")
	}
	wantFill(t, l, api.Match{{From: 0, To: 1}, {From: 1, To: 1}, {From: 2, To: 3}, {From: 0, To: 3}}, "abc", "acabc!")
	wantFill(t, row(group(4), group(9), lit("a")), api.Match{}, "abc", "a")
	// No limit is set to its text, nor to what it says.
	wantFill(t, tpl(t, `\1&\1`), api.Match{{From: 70, To: 72}, {From: 0, To: 1000}}, as(1000), as(2002))
}

// R2

func TestWhatIsHandedInStaysAsItWas(t *testing.T) {
	l := append(make([]api.Piece, 0, 7), lit("a&"), group(1), group(0), lit("b"))
	copy(l[4:7], row(lit("spare"), group(2), lit("room")))
	kept := slices.Clone(l[:7])
	r := ere(t, "(a)(b)?")
	kids := slices.Clone(r.Kids)
	m, _ := find.First(r, "xab", 0)
	for _, groups := range []int{-1, 0, 1, 9} {
		Right(l, groups)
	}
	Print(l)
	Fill(l, m, "xab")
	Subst(r, l, "xabaab", 1, true)
	Subst(r, l, "xabaab", 2, false)
	if !slices.Equal(l[:7], kept) || !slices.EqualFunc(r.Kids, kids, rx.Same) {
		t.Error(l[:7], r)
	}
	// Nor is what is behind a list's length looked at.
	if got := Print(l[:2]) + Fill(l[:1], m, "xab"); got != `a\&\1a&` || !Right(l[:1], 0) {
		t.Error(got)
	}
}

func TestWhatIsReadSharesNothing(t *testing.T) {
	const s = `a\1b&c\&d\2`
	l, again := tpl(t, s), tpl(t, s)
	want := slices.Clone(again)
	for i := range l[:cap(l)] {
		l[:cap(l)][i] = group(-7)
	}
	if !slices.Equal(again, want) {
		t.Error("two answers share memory")
	}
	if !slices.Equal(tpl(t, s), want) {
		t.Error("a later answer hangs on an earlier one")
	}
}

// shares tells whether a text lies in the memory of another one.
func shares(a, b string) bool {
	if a == "" || b == "" {
		return false
	}
	at, from := uintptr(unsafe.Pointer(unsafe.StringData(a))), uintptr(unsafe.Pointer(unsafe.StringData(b)))
	return from < at+uintptr(len(a)) && at < from+uintptr(len(b))
}

func TestTextsHandedOutAreNewMemory(t *testing.T) {
	s := strings.Repeat("ab", 20)
	for _, p := range tpl(t, s+"&"+s) {
		if shares(p.Lit, s) {
			t.Error("read", p)
		}
	}
	text := as(60) + `\n`
	l, _, _ := Parse(text, 0)
	if len(l) != 1 || shares(l[0].Lit, text) {
		t.Error("read", l)
	}
	own := row(lit(strings.Clone(s)))
	if shares(Print(own), own[0].Lit) {
		t.Error("print")
	}
	if shares(Fill(own, api.Match{}, s), own[0].Lit) || shares(Fill(row(group(0)), api.Match{{From: 0, To: len(s)}}, s), s) {
		t.Error("fill")
	}
	for _, r := range []string{"x", "a", ".*"} {
		for _, l := range [][]api.Piece{own, row(group(0)), nil, row(lit(as(api.MaxText)))} {
			if got, _ := Subst(ere(t, r), l, s, 1, false); shares(got, s) || len(l) > 0 && shares(got, l[0].Lit) {
				t.Error("subst", r, l)
			}
		}
	}
	if got, ok := Subst(ere(t, "a"), nil, as(61), 1, false); ok || got != as(61) {
		t.Error(got)
	}
}
