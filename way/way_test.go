package way

import (
	"fmt"
	"slices"
	"strings"
	"testing"

	"gloss/api"
	"gloss/bset"
	"gloss/rx"
)

// Makers of expressions.

func set(s string) api.Rx { return api.Rx{Kind: api.RSet, Set: bset.Of([]byte(s)...)} }

func dot() api.Rx { return api.Rx{Kind: api.RSet, Set: bset.Not(api.Set{})} }

func cat(kids ...api.Rx) api.Rx { return api.Rx{Kind: api.RCat, Kids: kids} }

func alt(kids ...api.Rx) api.Rx { return api.Rx{Kind: api.RAlt, Kids: kids} }

func rep(low, high int, kid api.Rx) api.Rx {
	return api.Rx{Kind: api.RRep, Min: low, Max: high, Kids: []api.Rx{kid}}
}

func group(n int, kid api.Rx) api.Rx {
	return api.Rx{Kind: api.RGroup, N: n, Kids: []api.Rx{kid}}
}

func backTo(n int) api.Rx { return api.Rx{Kind: api.RBack, N: n} }

func first() api.Rx { return api.Rx{Kind: api.RBegin} }

func last() api.Rx { return api.Rx{Kind: api.REnd} }

// ere is the extended expression s.
func ere(t *testing.T, s string) api.Rx {
	t.Helper()
	r, at, err := rx.Parse(s, true)
	if err != api.OK {
		t.Fatalf("%q: %d at %d", s, err, at)
	}
	return r
}

// told are states as one text: where each is, and the spans that there are.
func told(l []State) string {
	var all []string
	for _, x := range l {
		s := fmt.Sprint(x.At)
		for n, g := range x.Match {
			if g != (api.Span{From: -1, To: -1}) {
				s += fmt.Sprintf(" %d:%d-%d", n, g.From, g.To)
			}
		}
		all = append(all, s)
	}
	return strings.Join(all, ", ")
}

// wantWays asks for the states of r, as told, and for their places.
func wantWays(t *testing.T, r api.Rx, s string, bol bool, at int, want string) {
	t.Helper()
	l := Ways(r, s, bol, at)
	if got := told(l); got != want {
		t.Errorf("%s over %q from %d, %v: %s; not %s", rx.Print(r, true), s, at, bol, got, want)
	}
	wantEnds(t, r, s, bol, at, placesOf(l))
}

func wantEnds(t *testing.T, r api.Rx, s string, bol bool, at int, want []int) {
	t.Helper()
	if got := Ends(r, s, bol, at); !slices.Equal(got, want) {
		t.Errorf("%s over %q from %d, %v: ends %v, not %v", rx.Print(r, true), s, at, bol, got, want)
	}
}

// placesOf are the places of states, rising, each once.
func placesOf(l []State) []int {
	var places []int
	for at := 0; at <= api.MaxSpace; at++ {
		if slices.ContainsFunc(l, func(x State) bool { return x.At == at }) {
			places = append(places, at)
		}
	}
	return places
}

// query is an expression, a text, a place, and the states that are asked for.
type query struct {
	r, s string
	at   int
	want string
}

func wantAll(t *testing.T, qs []query) {
	t.Helper()
	for _, q := range qs {
		wantWays(t, ere(t, q.r), q.s, true, q.at, q.want)
	}
}

// P5.1

func TestNoneHasNoSpan(t *testing.T) {
	m := None()
	if len(m) != 1+api.MaxGroups {
		t.Error(len(m))
	}
	for n, g := range m {
		if g.From != -1 || g.To != -1 {
			t.Error(n, g)
		}
	}
	m[0] = api.Span{}
	if None()[0] != (api.Span{From: -1, To: -1}) {
		t.Error("an answer hangs on an earlier one")
	}
}

// P5.2

func TestRunsOfTheChapter(t *testing.T) {
	wantAll(t, []query{
		{"a*", "aab", 0, "2, 1, 0"},
		{"(a|ab)(c|bcd)", "abcd", 0, "4 1:0-1 2:1-4, 3 1:0-2 2:2-3"},
	})
}

func TestSetsGoOneFurther(t *testing.T) {
	wantAll(t, []query{
		{"a", "ab", 0, "1"}, {"a", "ab", 1, ""}, {"a", "ab", 2, ""}, {"b", "ab", 1, "2"},
		{"a", "", 0, ""}, {".", "", 0, ""}, {".", "x", 1, ""}, {".", "\n", 0, "1"},
		{"[^a]", "ab", 0, ""}, {"[^a]", "ab", 1, "2"}, {"[^a]", "ab", 2, ""}, {"[ab]", "b\x00\xff", 0, "1"},
	})
	// Each byte, and each set of one.
	for b := range 256 {
		text := string([]byte{byte(b)})
		wantWays(t, set(text), text, false, 0, "1")
		wantWays(t, set(text), string([]byte{byte(b + 1)}), false, 0, "")
		wantWays(t, dot(), text, false, 0, "1")
	}
}

func TestTheBeginningHangsOnBol(t *testing.T) {
	wantWays(t, first(), "ab", true, 0, "0")
	wantWays(t, first(), "ab", false, 0, "")
	wantWays(t, first(), "", true, 0, "0")
	wantWays(t, first(), "", false, 0, "")
	for at := 1; at <= 2; at++ {
		wantWays(t, first(), "ab", true, at, "")
		wantWays(t, first(), "ab", false, at, "")
	}
	// A line end within a text begins nothing.
	wantWays(t, first(), "\na", true, 1, "")
	wantWays(t, cat(first(), first(), set("a")), "a", true, 0, "1")
	wantWays(t, cat(set("a"), first()), "aa", true, 0, "")
	wantWays(t, alt(first(), set("a")), "a", true, 0, "0, 1")
	wantWays(t, alt(first(), set("a")), "a", false, 0, "1")
	// All else goes its way with bol and without.
	wantWays(t, rep(0, -1, set("a")), "aa", false, 0, "2, 1, 0")
}

func TestTheEndIsBehindTheLastByte(t *testing.T) {
	for _, bol := range []bool{false, true} {
		wantWays(t, last(), "", bol, 0, "0")
		wantWays(t, last(), "ab", bol, 0, "")
		wantWays(t, last(), "ab", bol, 1, "")
		wantWays(t, last(), "ab", bol, 2, "2")
		wantWays(t, last(), "a\n", bol, 1, "")
		wantWays(t, cat(set("b"), last(), last()), "ab", bol, 1, "2")
		wantWays(t, cat(last(), set("b")), "ab", bol, 1, "")
		wantWays(t, cat(rep(0, -1, dot()), last()), "ab", bol, 0, "2")
	}
}

func TestBackReferences(t *testing.T) {
	wantAll(t, []query{
		// Of a group that has no span yet.
		{`(a\1)`, "aa", 0, ""}, {`(\1)`, "", 0, ""}, {`(a)|b\1`, "ba", 0, ""}, {`(a)?\1`, "b", 0, ""}, {`(a)?b\1`, "bb", 0, ""}, {`(\1|a)`, "aa", 0, "1 1:0-1"}, {`(a)?\1?`, "", 0, "0"},
		// Of one whose bytes stand there, of one whose bytes don't.
		{`(a)\1`, "aa", 0, "2 1:0-1"}, {`(a)\1`, "ab", 0, ""}, {`(a)\1`, "a", 0, ""}, {`(ab)\1`, "abab", 0, "4 1:0-2"}, {`(ab)\1`, "aba", 0, ""}, {`(..)\1`, "xabab", 1, "5 1:1-3"}, {`(.)(.)\2\1`, "abba", 0, "4 1:0-1 2:1-2"}, {`(.)(.)\2\1`, "abab", 0, ""},
		{`(\n)a\1`, "\na\n", 0, "3 1:0-1"}, {"(.)\\1", "\xff\xff", 0, "2 1:0-1"},
		// Of an empty span.
		{`()\1`, "a", 1, "1 1:1-1"}, {`(a*)\1`, "b", 0, "0 1:0-0"}, {`()\1\1`, "", 0, "0 1:0-0"}, {`(b*)a\1`, "ab", 0, "1 1:0-0"},
		// As many as there are.
		{`(a*)\1`, "aaaa", 0, "4 1:0-2, 2 1:0-1, 0 1:0-0"}, {`(a*)b\1`, "aabaa", 0, "5 1:0-2"}, {`(a|ab)(c|bcd)\2`, "abcdbcd", 0, "7 1:0-1 2:1-4"},
		// Within its own group it is the span of the turn ahead.
		{`(a|b\1)*`, "aba", 0, "3 1:1-3, 1 1:0-1, 0"}, {`(a|\1b)*`, "aab", 0, "2 1:1-2, 3 1:1-3, 1 1:0-1, 0"}, {`(a|\1b)*`, "aababb", 0, "2 1:1-2, 4 1:3-4, 6 1:3-6, 3 1:1-3, 1 1:0-1, 0"}, {`(a|b\1){2}`, "aba", 0, "3 1:1-3"},
		// Its repetitions.
		{`(a)\1*`, "aaab", 0, "3 1:0-1, 2 1:0-1, 1 1:0-1"}, {`(ab)\1{1,2}`, "abababab", 0, "6 1:0-2, 4 1:0-2"}, {`()\1*`, "a", 0, "0 1:0-0"}, {`()\1{3}`, "a", 0, "0 1:0-0"}, {`()\1{2,}`, "a", 0, "0 1:0-0"}, {`(a)*\1`, "aaa", 0, "3 1:1-2, 2 1:0-1"},
	})
}

func TestEmptyRowsAndGroups(t *testing.T) {
	wantAll(t, []query{
		{"", "", 0, "0"}, {"", "ab", 0, "0"}, {"", "ab", 1, "1"}, {"", "ab", 2, "2"},
		{"()", "", 0, "0 1:0-0"}, {"()", "ab", 1, "1 1:1-1"}, {"()", "ab", 2, "2 1:2-2"},
		{"(())()", "ab", 1, "1 1:1-1 2:1-1 3:1-1"}, {"a()b", "ab", 0, "2 1:1-1"}, {"(|)", "a", 0, "0 1:0-0"},
	})
	wantWays(t, api.Rx{Kind: api.RCat, Kids: []api.Rx{}}, "ab", false, 1, "1")
	wantWays(t, group(1, api.Rx{Kind: api.RCat, Kids: []api.Rx{}}), "ab", false, 1, "1 1:1-1")
}

func TestRowsGoOnFromEachState(t *testing.T) {
	wantAll(t, []query{
		{"ab", "ab", 0, "2"}, {"ab", "aab", 0, ""}, {"ab", "aab", 1, "3"}, {"abc", "ab", 0, ""}, {"a*b*", "aab", 0, "3, 2, 1, 0"}, {"a*a", "aaa", 0, "3, 2, 1"}, {"(a*)(a*)", "aa", 0, "2 1:0-2 2:2-2, 2 1:0-1 2:1-2, 1 1:0-1 2:1-1, 2 1:0-0 2:0-2, 1 1:0-0 2:0-1, 0 1:0-0 2:0-0"},
		{"(a|ab)(b|)", "ab", 0, "2 1:0-1 2:1-2, 1 1:0-1 2:1-1, 2 1:0-2 2:2-2"}, {"(a|ab)b?", "ab", 0, "2 1:0-1, 1 1:0-1, 2 1:0-2"}, {"a*(b)a*", "abaa", 0, "4 1:1-2, 3 1:1-2, 2 1:1-2"},
	})
}

func TestChoicesInOrderEachOnce(t *testing.T) {
	wantAll(t, []query{
		{"a|b", "b", 0, "1"}, {"a|b", "c", 0, ""}, {"a|ab|abc", "abc", 0, "1, 2, 3"}, {"abc|ab|a", "abc", 0, "3, 2, 1"}, {"|a", "a", 0, "0, 1"}, {"a|", "a", 0, "1, 0"},
		// Kids that end at the same place.
		{"a|a", "a", 0, "1"}, {"a|.|[ab]", "a", 0, "1"}, {"ab|a|a.|.", "ab", 0, "2, 1"}, {"|a||a|", "a", 0, "0, 1"}, {"a*|a", "aa", 0, "2, 1, 0"}, {"a|a*", "aa", 0, "1, 2, 0"}, {"(a|a)", "a", 0, "1 1:0-1"}, {"^|$|", "", 0, "0"},
		// The same place, and other spans: these are other states.
		{"(a)|a", "a", 0, "1 1:0-1, 1"}, {"a|(a)", "a", 0, "1, 1 1:0-1"}, {"(a)|(a)", "a", 0, "1 1:0-1, 1 2:0-1"}, {"(a)|(.)|a|(a)", "a", 0, "1 1:0-1, 1 2:0-1, 1, 1 3:0-1"},
		{"(a|b)|b", "b", 0, "1 1:0-1, 1"}, {"a(b|)|ab", "ab", 0, "2 1:1-2, 1 1:1-1, 2"},
		// What comes of a state that is there already has come already.
		{"(a|a|b)c*", "acc", 0, "3 1:0-1, 2 1:0-1, 1 1:0-1"}, {"a*a*", "aa", 0, "2, 1, 0"}, {"a?a?a?", "aaa", 0, "3, 2, 1, 0"},
	})
}

func TestRepetitions(t *testing.T) {
	wantAll(t, []query{
		// Of 0 and more.
		{"a*", "b", 0, "0"}, {"a*", "", 0, "0"}, {"a*", "aaa", 1, "3, 2, 1"}, {"a*", "aaa", 3, "3"}, {"a?", "aa", 0, "1, 0"}, {"a?", "b", 0, "0"}, {"a{0,2}", "aaa", 0, "2, 1, 0"}, {"a{0,20}", "aa", 0, "2, 1, 0"}, {"a{0,1}", "a", 0, "1, 0"},
		// Of Min to Max.
		{"a{2,3}", "a", 0, ""}, {"a{2,3}", "aa", 0, "2"}, {"a{2,3}", "aaa", 0, "3, 2"}, {"a{2,3}", "aaaa", 0, "3, 2"}, {"a{2}", "aaa", 0, "2"}, {"a{2}", "a", 0, ""}, {"a{1}", "aa", 0, "1"}, {"a{1,2}", "aaa", 1, "3, 2"},
		// Of no Max.
		{"a+", "aaa", 0, "3, 2, 1"}, {"a+", "b", 0, ""}, {"a{2,}", "aaaa", 0, "4, 3, 2"}, {"a{2,}", "a", 0, ""}, {"a{20,}", strings.Repeat("a", 22), 0, "22, 21, 20"}, {"a{20,}", strings.Repeat("a", 19), 0, ""}, {"a{20}", strings.Repeat("a", 22), 0, "20"},
		// Longest first where the kid has it so, not otherwise.
		{"(a|ab|b)*", "ab", 0, "2 1:1-2, 1 1:0-1, 2 1:0-2, 0"}, {"(ab|a|b)*", "ab", 0, "2 1:0-2, 2 1:1-2, 1 1:0-1, 0"}, {"(|a)*", "aa", 0, "2 1:1-2, 1 1:0-1, 0"},
	})
}

func TestRepetitionsOfWhatMayBeEmpty(t *testing.T) {
	wantAll(t, []query{
		// At Min and more a turn that ends where it began isn't taken.
		{"()*", "a", 1, "1"}, {"(a*)*", "b", 0, "0"}, {"(a*)*", "aa", 0, "2 1:0-2, 2 1:1-2, 1 1:0-1, 0"}, {"(a?)*", "aa", 0, "2 1:1-2, 1 1:0-1, 0"}, {"(a|)*", "a", 0, "1 1:0-1, 0"}, {"(^)*", "a", 0, "0"}, {"($)*", "a", 1, "1"}, {"()?", "a", 0, "0"}, {"(){0,20}", "a", 0, "0"}, {"(a*){0,2}", "aa", 0, "2 1:0-2, 2 1:1-2, 1 1:0-1, 0"},
		// Below Min it is.
		{"()+", "a", 0, "0 1:0-0"}, {"(){3}", "a", 1, "1 1:1-1"}, {"(){2,}", "a", 1, "1 1:1-1"}, {"(){1,20}", "", 0, "0 1:0-0"}, {"(a*)+", "aa", 0, "2 1:0-2, 2 1:1-2, 1 1:0-1, 0 1:0-0"}, {"(a*)+", "b", 0, "0 1:0-0"}, {"(a*){2}", "a", 0, "1 1:1-1, 1 1:0-1, 0 1:0-0"}, {"(a|){2}", "a", 0, "1 1:1-1, 1 1:0-1, 0 1:0-0"}, {"(|a){2}", "a", 0, "0 1:0-0, 1 1:0-1, 1 1:1-1"}, {"(^|b){2}", "bb", 0, "0 1:0-0, 1 1:0-1, 2 1:1-2"}, {"(a*){20}", "a", 0, "1 1:1-1, 1 1:0-1, 0 1:0-0"},
		{"(a*){2,3}", "aa", 0, "2 1:2-2, 2 1:1-2, 1 1:1-1, 2 1:0-2, 1 1:0-1, 0 1:0-0"},
	})
}

func TestGroupsKeepTheLastSpan(t *testing.T) {
	wantAll(t, []query{
		{"(a|b)*", "ab", 0, "2 1:1-2, 1 1:0-1, 0"}, {"(ab){2}", "ababab", 0, "4 1:2-4"}, {"(a|(b))*", "ba", 0, "2 1:1-2 2:0-1, 1 1:0-1 2:0-1, 0"}, {"(a|(b))*", "bab", 0, "3 1:2-3 2:2-3, 2 1:1-2 2:0-1, 1 1:0-1 2:0-1, 0"}, {"((a)|(b))*", "ab", 0, "2 1:1-2 2:0-1 3:1-2, 1 1:0-1 2:0-1, 0"},
		{"((a)(b)?)*", "aba", 0, "3 1:2-3 2:2-3 3:1-2, 2 1:0-2 2:0-1 3:1-2, 1 1:0-1 2:0-1, 0"}, {"(((a)))", "a", 0, "1 1:0-1 2:0-1 3:0-1"}, {"((a)b(c))", "abc", 0, "3 1:0-3 2:0-1 3:2-3"}, {"((a*)*)*", "a", 0, "1 1:0-1 2:0-1, 0"},
		// A span from an elder turn is referred back to.
		{`((a)|\2b)*`, "aab", 0, "2 1:1-2 2:1-2, 3 1:1-3 2:0-1, 1 1:0-1 2:0-1, 0"}, {`((a)|b\2)*`, "aba", 0, "3 1:1-3 2:0-1, 1 1:0-1 2:0-1, 0"}, {`((.)x\2)*`, "axabxb", 0, "6 1:3-6 2:3-4, 3 1:0-3 2:0-1, 0"},
		// Ways that come to one state by other spans in between.
		{"((a|.)(b)?)*", "aa", 0, "2 1:1-2 2:1-2, 1 1:0-1 2:0-1, 0"},
	})
}

func TestTheWholeStaysNone(t *testing.T) {
	for _, s := range []string{"a*", "(a*)*", "(a)(b)*(c)?", "", "^"} {
		for _, x := range Ways(ere(t, s), "aab", true, 0) {
			if x.Match[0] != (api.Span{From: -1, To: -1}) {
				t.Error(s, x)
			}
		}
	}
}

// P5.3

func TestEndsRiseEachOnce(t *testing.T) {
	for _, q := range []struct {
		r, s string
		at   int
		want []int
	}{
		{"a*", "aab", 0, []int{0, 1, 2}}, {"a*", "aab", 1, []int{1, 2}}, {"a", "b", 0, nil}, {"abc|ab|a", "abc", 0, []int{1, 2, 3}}, {"a|abc|ab", "abc", 0, []int{1, 2, 3}}, {"(a)|a|(a)", "a", 0, []int{1}}, {"(aa)*", "aaaaa", 0, []int{0, 2, 4}}, {"(aa|aaa)*", "aaaaaaa", 0, []int{0, 2, 3, 4, 5, 6, 7}},
		{"(a*)(a*)(a*)", "aaa", 0, []int{0, 1, 2, 3}}, {`(a*)b\1`, "aabaaa", 0, []int{5}}, {`(a*)(b*)\1`, "aabaa", 0, []int{0, 2, 5}}, {`(a|(b))*\2`, "abba", 0, []int{3}}, {"", "", 0, []int{0}}, {"$", "ab", 2, []int{2}}, {"$", "ab", 1, nil},
	} {
		wantEnds(t, ere(t, q.r), q.s, true, q.at, q.want)
	}
	wantEnds(t, first(), "a", false, 0, nil)
	wantEnds(t, first(), "a", true, 0, []int{0})
	wantEnds(t, first(), "a", true, 1, nil)
}

// What there is beside the chapter's, for find.

func TestAWalkIsGoneFromManyPlaces(t *testing.T) {
	w := Over(ere(t, "(a|ab)(c|bcd)|b"), "abcdab", true)
	if !w.Any() {
		t.Error("there are ways")
	}
	for at, want := range []string{"4 1:0-1 2:1-4", "2", "", "", "", "6", ""} {
		x, ok := w.Farthest(at)
		if got := told([]State{x}); ok != (want != "") || ok && got != want || !ok && x != (State{}) {
			t.Errorf("from %d: %s, %v", at, got, ok)
		}
	}
	if x, ok := (Walk{}).Farthest(0); ok || x != (State{}) || (Walk{}).Any() {
		t.Error(x, ok)
	}
}
