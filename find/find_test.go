package find

import (
	"fmt"
	"math"
	"slices"
	"strings"
	"testing"

	"gloss/api"
	"gloss/bset"
	"gloss/rx"
	"gloss/way"
)

// Makers of expressions.

func set(s string) api.Rx { return api.Rx{Kind: api.RSet, Set: bset.Of([]byte(s)...)} }

func dot() api.Rx { return api.Rx{Kind: api.RSet, Set: bset.Not(api.Set{})} }

func cat(kids ...api.Rx) api.Rx { return api.Rx{Kind: api.RCat, Kids: kids} }

func alt(kids ...api.Rx) api.Rx { return api.Rx{Kind: api.RAlt, Kids: kids} }

func rep(low, high int, kid api.Rx) api.Rx {
	return api.Rx{Kind: api.RRep, Min: low, Max: high, Kids: []api.Rx{kid}}
}

func group(n int, kid api.Rx) api.Rx {
	return api.Rx{Kind: api.RGroup, N: n, Kids: []api.Rx{kid}}
}

func backTo(n int) api.Rx { return api.Rx{Kind: api.RBack, N: n} }

func first() api.Rx { return api.Rx{Kind: api.RBegin} }

func last() api.Rx { return api.Rx{Kind: api.REnd} }

func parsed(t *testing.T, s string, ere bool) api.Rx {
	t.Helper()
	r, at, err := rx.Parse(s, ere)
	if err != api.OK {
		t.Fatalf("%q: %d at %d", s, err, at)
	}
	return r
}

// ere is the extended expression s.
func ere(t *testing.T, s string) api.Rx {
	t.Helper()
	return parsed(t, s, true)
}

// told are matches as one text: the whole of each, then the groups that have spans.
func told(l ...api.Match) string {
	var all []string
	for _, m := range l {
		s := fmt.Sprintf("%d-%d", m[0].From, m[0].To)
		for n, g := range m[1:] {
			if g != (api.Span{From: -1, To: -1}) {
				s += fmt.Sprintf(" %d:%d-%d", 1+n, g.From, g.To)
			}
		}
		all = append(all, s)
	}
	return strings.Join(all, ", ")
}

// query is an expression, a text, a place, and the match that is asked for; "": there is none.
type query struct {
	r, s string
	from int
	want string
}

func wantFirst(t *testing.T, r api.Rx, s string, from int, want string) {
	t.Helper()
	m, ok := First(r, s, from)
	switch {
	case ok && told(m) != want:
		t.Errorf("%s in %q from %d: %s, not %q", rx.Print(r, true), s, from, told(m), want)
	case !ok && (want != "" || m != way.None()):
		t.Errorf("%s in %q from %d: none, %v, not %q", rx.Print(r, true), s, from, m, want)
	}
	if from == 0 && Has(r, s) != (want != "") {
		t.Errorf("%s in %q: has %v", rx.Print(r, true), s, Has(r, s))
	}
}

func wantFirsts(t *testing.T, qs ...query) {
	t.Helper()
	for _, q := range qs {
		wantFirst(t, ere(t, q.r), q.s, q.from, q.want)
	}
}

// wantAll asks for all matches, as told.
func wantAll(t *testing.T, r api.Rx, s, want string) {
	t.Helper()
	l := All(r, s)
	if got := told(l...); got != want {
		t.Errorf("%s in %q: %s; not %s", rx.Print(r, true), s, got, want)
	}
	if len(l) == 0 && l != nil {
		t.Errorf("%s in %q: a list without matches", rx.Print(r, true), s)
	}
}

// P6.1

func TestFirstBeginsAtTheLeastPlace(t *testing.T) {
	wantFirsts(t,
		query{"b", "abab", 0, "1-2"}, query{"b", "abab", 1, "1-2"}, query{"b", "abab", 2, "3-4"}, query{"b", "abab", 3, "3-4"}, query{"b", "abab", 4, ""},
		// A longer one further on waits.
		query{"aaa|b", "baaa", 0, "0-1"}, query{"a*", "baaa", 0, "0-0"}, query{"a*", "baaa", 1, "1-4"}, query{"a*", "baaa", 2, "2-4"}, query{"a+", "bbaaa", 0, "2-5"},
		query{"abc|bcd|c", "xabd bcd", 0, "5-8"}, query{"(a)|b", "xab", 0, "1-2 1:1-2"}, query{"(a)|b", "xab", 2, "2-3"},
	)
}

func TestFirstEndsFarthest(t *testing.T) {
	wantFirsts(t,
		query{"a|ab|abc", "xabcd", 0, "1-4"}, query{"abc|ab|a", "xabcd", 0, "1-4"}, query{"a|abcd|ab", "abcx", 0, "0-2"}, query{"|a", "a", 0, "0-1"},
		query{"(a|ab)(c|bcd)", "xabcd", 0, "1-5 1:1-2 2:2-5"}, query{"(ab|a)(c|bcd)", "xabcd", 0, "1-5 1:1-2 2:2-5"}, query{"(ab|a)(c|bcd)", "xabc", 0, "1-4 1:1-3 2:3-4"},
		query{"a{1,2}", "aaa", 0, "0-2"}, query{"a{1,2}", "aaa", 2, "2-3"}, query{`(a*)\1`, "aaaaa", 0, "0-4 1:0-2"}, query{"a*$", "aab", 0, "3-3"}, query{"a*|aab", "aab", 0, "0-3"},
	)
}

func TestFirstIsTheFirstOfThoseThatEndFarthest(t *testing.T) {
	wantFirsts(t,
		query{"(a*)(a*)", "aa", 0, "0-2 1:0-2 2:2-2"}, query{"(a|ab)(bc|c)", "abc", 0, "0-3 1:0-1 2:1-3"}, query{"(ab|a)(bc|c)", "abc", 0, "0-3 1:0-2 2:2-3"},
		query{"(a)|(a)", "a", 0, "0-1 1:0-1"}, query{"a|(a)", "a", 0, "0-1"}, query{"(a)|a", "a", 0, "0-1 1:0-1"}, query{"(a?)(a?)(a?)", "aa", 0, "0-2 1:0-1 2:1-2 3:2-2"},
		query{"(a|b)*", "xab", 1, "1-3 1:2-3"}, query{"(a*)*", "aa", 0, "0-2 1:0-2"}, query{"(a|(b))*", "ba", 0, "0-2 1:1-2 2:0-1"}, query{"((a)|b)*(b*)", "abb", 0, "0-3 1:2-3 2:0-1 3:3-3"},
		// A shorter one ahead of them makes no difference.
		query{"(a)(b)?|(ab)", "ab", 0, "0-2 1:0-1 2:1-2"}, query{"(a)|(ab)|(abc?)", "ab", 0, "0-2 2:0-2"}, query{"(b*|a)(ab)?", "ab", 0, "0-2 1:0-0 2:0-2"},
	)
}

func TestFirstFromThePlacesOfTheText(t *testing.T) {
	wantFirsts(t,
		query{"", "", 0, "0-0"}, query{"", "ab", 0, "0-0"}, query{"", "ab", 1, "1-1"}, query{"", "ab", 2, "2-2"}, query{"a*", "ba", 2, "2-2"}, query{"$", "ab", 0, "2-2"}, query{"$", "ab", 2, "2-2"}, query{"a", "a", 1, ""}, query{"a", "", 0, ""}, query{".", "\x00\xff\n", 1, "1-2"},
	)
	for _, s := range []string{"", "ab", strings.Repeat("a", api.MaxSpace)} {
		for _, from := range []int{-1, -2, -len(s) - 1, len(s) + 1, len(s) + 2, len(s) + 128, len(s) + 256, 1 << 32, -1 << 32, math.MaxInt, math.MinInt} {
			for _, r := range []api.Rx{cat(), dot(), rep(0, -1, dot()), first(), last(), group(1, cat())} {
				wantFirst(t, r, s, from, "")
			}
		}
	}
}

func TestTheTextsBeginningAloneIsABeginning(t *testing.T) {
	wantFirsts(t,
		query{"^", "ab", 0, "0-0"}, query{"^", "ab", 1, ""}, query{"^", "ab", 2, ""}, query{"^a", "aa", 0, "0-1"}, query{"^a", "aa", 1, ""}, query{"^a", "ba", 0, ""}, query{"^b", "a\nb", 0, ""}, query{"^b", "a\nb", 2, ""}, query{"a$", "a\nb", 0, ""}, query{"a$", "aaa", 0, "2-3"}, query{"^$", "", 0, "0-0"}, query{"^$", "a", 0, ""}, query{"^$", "a\n", 0, ""}, query{"^a|b", "aab", 1, "2-3"},
	)
}

func TestHas(t *testing.T) {
	for _, q := range []struct {
		r, s string
		want bool
	}{{"b", "aab", true}, {"b", "aaa", false}, {"", "", true}, {"a", "", false}, {"^b", "ab", false}, {"b$", "ab", true}, {"$", "ab", true}, {`(.)\1`, "abba", true}, {`(.)\1`, "abab", false}, {"a|b|c", "xyzc", true}, {"[^a]", "aaa", false}} {
		if Has(ere(t, q.r), q.s) != q.want {
			t.Errorf("%s in %q: not %v", q.r, q.s, q.want)
		}
	}
}

func TestBasicExpressionsMatch(t *testing.T) {
	wantFirst(t, parsed(t, `a\(b*\)\1$`, false), "xabb", 0, "1-4 1:2-3")
	wantFirst(t, parsed(t, "a|b", false), "ba|b", 0, "1-4")
	wantFirst(t, parsed(t, "^*", false), "**", 0, "0-1")
	wantAll(t, parsed(t, `\(a\)\{1,2\}`, false), "aaa", "0-2 1:1-2, 2-3 1:2-3")
}

// P6.2

// wantAlls asks for all matches: an expression, a text, and what is told of them, thrice and thrice again.
func wantAlls(t *testing.T, words ...string) {
	t.Helper()
	for q := range slices.Chunk(words, 3) {
		wantAll(t, ere(t, q[0]), q[1], q[2])
	}
}

func TestAllTheRunsOfTheChapter(t *testing.T) {
	wantAlls(t, "a*", "baac", "0-0, 1-3, 4-4", "b", "abab", "1-2, 3-4")
}

func TestAllComeOneAfterTheOther(t *testing.T) {
	wantAlls(t,
		"x", "ab", "", "a", "", "", "a", "aaa", "0-1, 1-2, 2-3", "aa", "aaaaa", "0-2, 2-4", "aba", "ababa", "0-3", "a+", "aabaa", "0-2, 3-5", "a|ab", "abab", "0-2, 2-4",
		"(a)|b", "ab", "0-1 1:0-1, 1-2", "(a|(b))(c?)", "bcaxb", "0-2 1:0-1 2:0-1 3:1-2, 2-3 1:2-3 3:3-3, 4-5 1:4-5 2:4-5 3:5-5", `(.)\1`, "aabccc", "0-2 1:0-1, 3-5 1:3-4",
		".", "a\nb", "0-1, 1-2, 2-3", ".*", "a\nb", "0-3", "[^,]+", "ab,c,,d", "0-2, 3-4, 6-7",
	)
}

func TestEmptyOnesAmongAll(t *testing.T) {
	wantAlls(t,
		"", "", "0-0", "", "ab", "0-0, 1-1, 2-2", "a*", "", "0-0", "b*", "ab", "0-0, 1-2", "b*", "ba", "0-1, 2-2", "x*|b", "ab", "0-0, 1-2", "x*|b", "abab", "0-0, 1-2, 3-4",
		// Where the last one ended an empty one isn't taken, but one that isn't empty is.
		"a*", "aa", "0-2", "a*", "aab", "0-2, 3-3", "a*", "aabba", "0-2, 3-3, 4-5", "a|b*", "aab", "0-1, 1-2, 2-3", "(a|b)|c*", "abc", "0-1 1:0-1, 1-2 1:1-2, 2-3", "a|$", "aa", "0-1, 1-2", "a|$", "ab", "0-1, 2-2", "()a|()", "ab", "0-1 1:0-0, 2-2 2:2-2",
		// Behind an empty one a place is left out.
		"|b", "ab", "0-0, 1-2", "(|a)b|", "bab", "0-1 1:0-0, 1-3 1:1-2", "$|b", "abb", "1-2, 2-3", "(a)*", "bab", "0-0, 1-2 1:1-2, 3-3",
	)
}

func TestAllWithABeginningAndAnEnd(t *testing.T) {
	wantAlls(t,
		"^a", "aaa", "0-1", "^", "ab", "0-0", "^", "", "0-0", "$", "ab", "2-2", "^|$", "ab", "0-0, 2-2", "^|$", "", "0-0", "a$", "aaa", "2-3", "^a*$", "aa", "0-2", "(^|a)b*", "bab", "0-1 1:0-0, 1-3 1:1-2", "^a|b", "aab", "0-1, 2-3", "^|b", "bb", "0-1, 1-2", "^b", "a\nb", "", "a$", "a\nb", "",
	)
}

// P6.3

func TestGroupIsWhatItsSpanHas(t *testing.T) {
	s := "xabb"
	m, ok := First(ere(t, "(a)(b*)(c)?"), s, 0)
	if !ok {
		t.Fatal("none")
	}
	for n, want := range []string{"abb", "a", "bb", ""} {
		if got := Group(m, s, n); got != want {
			t.Errorf("%d: %q", n, got)
		}
	}
	for _, n := range []int{-1, -2, len(m), len(m) + 1, 1 << 32, math.MaxInt, math.MinInt} {
		if got := Group(m, s, n); got != "" {
			t.Errorf("%d: %q", n, got)
		}
	}
	for n := -1; n <= len(m); n++ {
		if got := Group(way.None(), s, n); got != "" {
			t.Errorf("%d: %q", n, got)
		}
	}
}

func TestGroupOfSpansThatArentWithinTheText(t *testing.T) {
	for _, q := range []struct {
		from, to int
		s, want  string
	}{
		{0, 3, "abc", "abc"}, {1, 2, "abc", "b"}, {0, 0, "abc", ""}, {3, 3, "abc", ""}, {2, 3, "abc", "c"}, {0, 0, "", ""}, {0, 2, "\n\xff", "\n\xff"},
		{0, 4, "abc", ""}, {3, 4, "abc", ""}, {4, 4, "abc", ""}, {4, 5, "abc", ""}, {2, 1, "abc", ""}, {3, 0, "abc", ""}, {-1, 1, "abc", ""}, {-3, -1, "abc", ""}, {-1, -1, "abc", ""}, {0, -1, "abc", ""}, {0, 1, "", ""},
		{math.MinInt, 2, "abc", ""}, {1, math.MaxInt, "abc", ""}, {math.MinInt, math.MaxInt, "abc", ""}, {math.MaxInt, math.MinInt, "abc", ""}, {math.MaxInt, math.MaxInt, "abc", ""},
	} {
		for n := range way.None() {
			m := way.None()
			m[n] = api.Span{From: q.from, To: q.to}
			if got := Group(m, q.s, n); got != q.want {
				t.Errorf("%d: %d-%d of %q: %q", n, q.from, q.to, q.s, got)
			}
			if got := Group(m, q.s, (n+1)%len(m)); got != "" {
				t.Errorf("behind %d: %q", n, got)
			}
		}
	}
	// No limit is set to its text.
	if got := Group(api.Match{{From: 70, To: 72}}, strings.Repeat("a", 70)+"bc", 0); got != "bc" {
		t.Error(got)
	}
}
