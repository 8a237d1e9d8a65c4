package tpl

import (
	"math"
	"slices"
	"strings"
	"testing"

	"gloss/api"
	"gloss/find"
	"gloss/rx"
	"gloss/way"
)

// Makers.

func lit(s string) api.Piece { return api.Piece{Group: -1, Lit: s} }

func group(n int) api.Piece { return api.Piece{Group: n} }

func row(l ...api.Piece) []api.Piece { return l }

func as(n int) string { return strings.Repeat("a", n) }

func parsed(t *testing.T, s string, ere bool) api.Rx {
	t.Helper()
	r, at, err := rx.Parse(s, ere)
	if err != api.OK {
		t.Fatalf("%q: %d at %d", s, err, at)
	}
	return r
}

// ere is the extended expression s.
func ere(t *testing.T, s string) api.Rx {
	t.Helper()
	return parsed(t, s, true)
}

// tpl is the replacement s.
func tpl(t *testing.T, s string) []api.Piece {
	t.Helper()
	l, at, err := Parse(s, api.MaxGroups)
	if err != api.OK {
		t.Fatalf("%q: %d at %d", s, err, at)
	}
	return l
}

// P7.1

func wantRight(t *testing.T, groups int, want bool, lists ...[]api.Piece) {
	t.Helper()
	for i, l := range lists {
		if Right(l, groups) != want {
			t.Errorf("%d, of %d groups: not %v: %v", i, groups, want, l)
		}
	}
}

func TestRightGroups(t *testing.T) {
	for groups := range api.MaxGroups + 1 {
		wantRight(t, groups, true, nil, row(), row(group(0)), row(group(groups)), row(group(0), group(0), group(groups), group(groups)))
		wantRight(t, groups, false, row(group(groups+1)), row(group(0), group(groups+1)), row(lit("a"), group(groups+1), lit("b")), row(group(-2)), row(group(math.MaxInt)), row(group(math.MinInt)), row(group(1<<32)), row(group(-1<<32)))
	}
	wantRight(t, 9, true, row(group(9), group(1)))
	wantRight(t, 9, false, row(group(10)))
	for _, p := range []api.Piece{{Group: 0, Lit: "a"}, {Group: 1, Lit: "a"}, {Group: 2, Lit: "\x00"}, {Group: 1, Lit: as(api.MaxText + 1)}, {Group: -2, Lit: "a"}, {Group: 3, Lit: "a"}} {
		wantRight(t, 2, false, row(p), row(group(0), p), row(p, group(1)), row(lit("a"), p))
	}
}

func TestRightTexts(t *testing.T) {
	for _, groups := range []int{0, 1, api.MaxGroups} {
		wantRight(t, groups, true, row(lit("a")), row(lit("\x00")), row(lit("&/\\\n\xff")), row(lit(as(api.MaxText-1))), row(lit(as(api.MaxText))), row(lit(as(api.MaxText)), group(0), lit(as(api.MaxText))))
		wantRight(t, groups, false, row(lit("")), row(group(0), lit("")), row(lit("a"), group(0), lit("")), row(lit(as(api.MaxText+1))), row(group(0), lit(as(api.MaxText+1))), row(lit(as(1<<20))))
	}
}

func TestRightTextsAreNotBesideEachOther(t *testing.T) {
	a, b, g := lit("a"), lit("b"), group(0)
	wantRight(t, 0, true, row(a, g, b), row(g, a, g, b, g), row(a, g, g, b), row(g, g))
	wantRight(t, 0, false, row(a, b), row(a, a), row(a, g, b, a), row(g, a, b), row(a, b, g), row(g, a, g, g, b, b, g))
}

func TestRightOfFewerThanNoGroups(t *testing.T) {
	for _, groups := range []int{-1, -2, math.MinInt} {
		wantRight(t, groups, true, nil, row(lit("a")))
		wantRight(t, groups, false, row(group(0)), row(group(1)), row(group(-2)), row(group(groups-1)), row(lit("")))
	}
}

func TestPrint(t *testing.T) {
	for _, q := range []struct {
		l    []api.Piece
		want string
	}{
		{nil, ""}, {row(), ""}, {row(group(0)), "&"}, {row(group(1)), `\1`}, {row(group(2)), `\2`}, {row(group(3)), `\3`}, {row(group(9)), `\9`}, {row(group(0), group(0)), "&&"},
		{row(group(2), lit("-"), group(1), group(0)), `\2-\1&`}, {row(group(1), lit("2")), `\12`}, {row(lit("1"), group(1), lit("1")), `1\11`},
		{row(lit("a")), "a"}, {row(lit("&")), `\&`}, {row(lit("/")), `\/`}, {row(lit(`\`)), `\\`}, {row(lit("\n")), `\n`}, {row(lit("n")), "n"}, {row(lit(`\n`)), `\\n`}, {row(lit(`\1`)), `\\1`},
		{row(lit("a&/\\\nb")), `a\&\/\\\nb`}, {row(lit("&&")), `\&\&`}, {row(lit("\n\n")), `\n\n`}, {row(lit("&"), group(0), lit("&")), `\&&\&`}, {row(lit("0123456789.[]*^$")), "0123456789.[]*^$"},
	} {
		if got := Print(q.l); got != q.want {
			t.Errorf("%v: %q, not %q", q.l, got, q.want)
		}
	}
	for c := range 256 {
		b := string([]byte{byte(c)})
		want := b
		switch b {
		case "&", "/", `\`:
			want = `\` + b
		case "\n":
			want = `\n`
		}
		if got := Print(row(lit("x" + b + "y"))); got != "x"+want+"y" {
			t.Errorf("%d: %q", c, got)
		}
	}
	if got := Print(row(lit(strings.Repeat("&", api.MaxText)), group(1))); got != strings.Repeat(`\&`, api.MaxText)+`\1` {
		t.Error(got)
	}
}

// P7.2

func wantRead(t *testing.T, s string, groups int, want []api.Piece) {
	t.Helper()
	l, at, err := Parse(s, groups)
	if err != api.OK || at != 0 || !slices.Equal(l, want) || !Right(l, groups) {
		t.Errorf("%q, of %d groups: %v, %d, %d; not %v", s, groups, l, at, err, want)
	}
}

func wantRefused(t *testing.T, s string, groups, want int) {
	t.Helper()
	l, at, err := Parse(s, groups)
	if err != api.ErrForm || at != want || l != nil {
		t.Errorf("%q, of %d groups: %v, %d, %d; not at %d", s, groups, l, at, err, want)
	}
}

func TestParseWhatIsPrinted(t *testing.T) {
	wantRead(t, "", 0, nil)
	wantRead(t, "", api.MaxGroups, nil)
	wantRead(t, "&", 0, row(group(0)))
	wantRead(t, "&&", 0, row(group(0), group(0)))
	wantRead(t, `\2-\1&`, 2, row(group(2), lit("-"), group(1), group(0)))
	wantRead(t, `\1\1`, 1, row(group(1), group(1)))
	wantRead(t, `a\&\/\\\nb`, 0, row(lit("a&/\\\nb")))
	wantRead(t, `\&`, 0, row(lit("&")))
	wantRead(t, `\/`, 0, row(lit("/")))
	wantRead(t, `\\`, 0, row(lit(`\`)))
	wantRead(t, `\n`, 0, row(lit("\n")))
	wantRead(t, `\\n`, 0, row(lit(`\n`)))
	wantRead(t, `\\&`, 0, row(lit(`\`), group(0)))
	wantRead(t, `\\\&`, 0, row(lit(`\&`)))
	wantRead(t, `\\1`, 1, row(lit(`\1`)))
	wantRead(t, `\\\1`, 1, row(lit(`\`), group(1)))
	wantRead(t, `&\&&`, 0, row(group(0), lit("&"), group(0)))
}

func TestParseOtherBytes(t *testing.T) {
	for c := range 256 {
		b := string([]byte{byte(c)})
		switch b {
		case "&":
			wantRead(t, "x"+b+"y", 0, row(lit("x"), group(0), lit("y")))
		case "/", "\n":
			wantRefused(t, b, 0, 0)
			wantRefused(t, "x"+b+"y", api.MaxGroups, 1)
		case `\`:
			wantRefused(t, "x"+b+"y", api.MaxGroups, 1)
		default:
			wantRead(t, b, 0, row(lit(b)))
			wantRead(t, "x"+b+"y", api.MaxGroups, row(lit("x"+b+"y")))
		}
	}
	wantRead(t, "n", 0, row(lit("n")))
	wantRead(t, "0123456789", 3, row(lit("0123456789")))
	wantRead(t, ".*[^a]$(b)", 3, row(lit(".*[^a]$(b)")))
}

func TestParseBytesBehindABackslash(t *testing.T) {
	for c := range 256 {
		b := string([]byte{byte(c)})
		switch {
		case strings.Contains(`&/\`, b):
			wantRead(t, `\`+b, 0, row(lit(b)))
			wantRead(t, `&\`+b+"y", 0, row(group(0), lit(b+"y")))
		case b == "n":
			wantRead(t, `x\`+b+"y", 0, row(lit("x\ny")))
		case "1" <= b && b <= "3":
			wantRead(t, `x\`+b+"y", 3, row(lit("x"), group(c-'0'), lit("y")))
		default:
			wantRefused(t, `\`+b, 3, 0)
			wantRefused(t, `x&\`+b+"y", 3, 2)
		}
	}
	wantRefused(t, `\`, 3, 0)
	wantRefused(t, `ab\`, 3, 2)
	wantRefused(t, `\\\`, 3, 2)
	wantRefused(t, `\1\`, 3, 2)
}

func TestParseNumbersOfGroups(t *testing.T) {
	digits := "0123456789"
	for groups := range 12 {
		for n := range 10 {
			s := `\` + digits[n:n+1]
			if n == 0 || n > groups {
				wantRefused(t, s, groups, 0)
				wantRefused(t, "ab"+s+"c", groups, 2)
				continue
			}
			wantRead(t, s, groups, row(group(n)))
			wantRead(t, "ab"+s+"c", groups, row(lit("ab"), group(n), lit("c")))
		}
	}
	wantRead(t, `\12`, 1, row(group(1), lit("2")))
	wantRead(t, `\12`, 12, row(group(1), lit("2")))
	wantRead(t, `\10`, 3, row(group(1), lit("0")))
	wantRead(t, `\1\23`, 2, row(group(1), group(2), lit("3")))
	wantRefused(t, `\01`, 3, 0)
	for _, groups := range []int{-1, -2, math.MinInt} {
		wantRead(t, "", groups, nil)
		wantRead(t, `a\&b`, groups, row(lit("a&b")))
		wantRefused(t, `a\1`, groups, 1)
		// No piece of a group is right there.
		wantRefused(t, "a&", groups, 1)
	}
	wantRead(t, `&\9`, math.MaxInt, row(group(0), group(9)))
}

func TestParseTellsTheFirstFault(t *testing.T) {
	for i, s := range []string{"/\n", "a/\\0", `ab\0/`, `&&&\x/`, "\\1\\n\n/", "\\1\\na\\3\n"} {
		wantRefused(t, s, 2, i)
	}
	wantRefused(t, "a\nb", 2, 1)
	wantRefused(t, `&\.`, 2, 1)
	wantRefused(t, strings.Repeat("&", 1000)+"/", 2, 1000)
}

func TestParseTextsOfMaxTextBytes(t *testing.T) {
	most := as(api.MaxText)
	wantRead(t, as(api.MaxText-1), 0, row(lit(as(api.MaxText-1))))
	wantRead(t, most, 0, row(lit(most)))
	wantRead(t, most+"&"+most+`\1`+most, 1, row(lit(most), group(0), lit(most), group(1), lit(most)))
	wantRead(t, strings.Repeat(`\n`, api.MaxText), 0, row(lit(strings.Repeat("\n", api.MaxText))))
	wantRead(t, most[1:]+`\&`, 0, row(lit(most[1:]+"&")))
	// The byte that is too many is told.
	wantRefused(t, most+"a", 0, api.MaxText)
	wantRefused(t, most+"a/", 0, api.MaxText)
	wantRefused(t, most+"/", 0, api.MaxText)
	wantRefused(t, most+`\n`, 0, api.MaxText)
	wantRefused(t, strings.Repeat(`\n`, api.MaxText+1), 0, 2*api.MaxText)
	wantRefused(t, most+"&"+most+"aa", 0, 2*api.MaxText+1)
	wantRefused(t, as(1<<20), 0, api.MaxText)
}

// P7.3

func wantFill(t *testing.T, l []api.Piece, m api.Match, s, want string) {
	t.Helper()
	if got := Fill(l, m, s); got != want {
		t.Errorf("%v of %v in %q: %q, not %q", l, m, s, got, want)
	}
}

func TestFill(t *testing.T) {
	s := "xabb"
	m, _ := find.First(ere(t, "(a)(b*)(c)?"), s, 0)
	for text, want := range map[string]string{
		"": "", "&": "abb", `\1`: "a", `\2`: "bb", `\3`: "", "z": "z", `\2-\1&`: "bb-aabb", "&&": "abbabb", `[\3]`: "[]", `\3\3`: "", `\1\2\3\1`: "abba", `\12`: "a2", `\&\/\\\n`: "&/\\\n", `a\1b\2c&d`: "aabbbcabbd",
	} {
		wantFill(t, tpl(t, text), m, s, want)
	}
	m, _ = find.First(ere(t, "(a)(b)"), "ab", 0)
	wantFill(t, tpl(t, `\2-\1&`), m, "ab", "b-aab")
}

func TestFillOfGroupsThatMatchedNothing(t *testing.T) {
	m, _ := find.First(ere(t, "(x)|(b*)"), "ab", 0)
	wantFill(t, tpl(t, `<&,\1,\2,\3>`), m, "ab", "<,,,>")
	wantFill(t, tpl(t, `<&,\1,\2,\3>`), way.None(), "ab", "<,,,>")
	wantFill(t, tpl(t, `\1\2&`), way.None(), "", "")
	wantFill(t, nil, m, "ab", "")
}

// P7.4

// swap is a substitution, and what is asked of it.
type swap struct {
	r, l, s string
	nth     int
	global  bool
	want    string
	ok      bool
}

func wantSwap(t *testing.T, r api.Rx, l []api.Piece, q swap) {
	t.Helper()
	if got, ok := Subst(r, l, q.s, q.nth, q.global); got != q.want || ok != q.ok {
		t.Errorf("%+v: %q, %v", q, got, ok)
	}
}

func wantSwaps(t *testing.T, qs ...swap) {
	t.Helper()
	for _, q := range qs {
		wantSwap(t, ere(t, q.r), tpl(t, q.l), q)
	}
}

func TestSubstTheRunsOfTheChapter(t *testing.T) {
	wantSwaps(t, swap{"a", "x", "banana", 2, false, "banxna", true}, swap{"a", "x", "banana", 2, true, "banxnx", true})
}

func TestSubstOne(t *testing.T) {
	wantSwaps(t,
		swap{"a", "x", "banana", 1, false, "bxnana", true}, swap{"a", "x", "banana", 3, false, "bananx", true}, swap{"a", "x", "banana", 4, false, "banana", false}, swap{"x", "y", "banana", 1, false, "banana", false},
		swap{"b", "", "banana", 1, false, "anana", true}, swap{"a$", "<&>", "banana", 1, false, "banan<a>", true}, swap{"banana", "&&", "banana", 1, false, "bananabanana", true}, swap{"an", `\&`, "banana", 2, false, "ban&a", true},
		swap{"(.)(.)", `\2\1`, "abcde", 1, false, "bacde", true}, swap{"(.)(.)", `\2\1`, "abcde", 2, false, "abdce", true}, swap{"(.)(.)", `\2\1`, "abcde", 3, false, "abcde", false},
		swap{"", "-", "", 1, false, "-", true}, swap{"", "-", "", 2, false, "", false}, swap{"", "-", "ab", 2, false, "a-b", true}, swap{"", "-", "ab", 3, false, "ab-", true}, swap{"a*", "<&>", "baac", 2, false, "b<aa>c", true}, swap{"$", "!", "ab", 1, false, "ab!", true}, swap{"^", "!", "ab", 1, false, "!ab", true}, swap{"^", "!", "ab", 2, false, "ab", false},
		swap{"a", "&", "a", 1, false, "a", true}, swap{"\n", `\\n`, "a\nb", 1, false, `a\nb`, true},
	)
}

func TestSubstAllFromOneOn(t *testing.T) {
	wantSwaps(t,
		swap{"a", "x", "banana", 1, true, "bxnxnx", true}, swap{"a", "x", "banana", 3, true, "bananx", true}, swap{"a", "x", "banana", 4, true, "banana", false}, swap{"x", "y", "banana", 1, true, "banana", false}, swap{"a", "", "banana", 1, true, "bnn", true}, swap{"a", "", "aaa", 1, true, "", true}, swap{"a", "", "aaa", 2, true, "a", true},
		swap{"(.)(.)", `\2\1`, "abcde", 1, true, "badce", true}, swap{"(.)(.)", `\2\1`, "abcde", 2, true, "abdce", true}, swap{"(x)?b", `[\1]`, "abxb", 1, true, "a[][x]", true}, swap{"(a)|(b)", `<\1|\2>`, "abc", 1, true, "<a|><|b>c", true},
		swap{"a*", "-", "baac", 1, true, "-b-c-", true}, swap{"a*", "-", "baac", 2, true, "b-c-", true}, swap{"", "-", "ab", 1, true, "-a-b-", true}, swap{"", "-", "ab", 2, true, "a-b-", true}, swap{"b*", "<&>", "abb", 1, true, "<>a<bb>", true}, swap{"^a", "x", "aaa", 1, true, "xaa", true}, swap{".", "&&", "abc", 2, true, "abbcc", true},
		// What stands there isn't gone over again.
		swap{"a", "aa", "aa", 1, true, "aaaa", true}, swap{"a", "", "aabaab", 1, true, "bb", true}, swap{"ab", "b", "aabb", 1, true, "abb", true},
	)
	wantSwap(t, parsed(t, `\(a\)\(b*\)`, false), tpl(t, `\2\1`), swap{s: "abab", global: true, want: "baba", ok: true})
}

func TestSubstFromNumbersBelowOneAndBeyond(t *testing.T) {
	for _, nth := range []int{0, -1, -5, math.MinInt} {
		wantSwaps(t, swap{"a", "x", "banana", nth, false, "bxnana", true}, swap{"a", "x", "banana", nth, true, "bxnxnx", true}, swap{"x", "y", "banana", nth, true, "banana", false})
	}
	for _, nth := range []int{4, 5, 99, 1 << 32, math.MaxInt} {
		wantSwaps(t, swap{"a", "x", "banana", nth, false, "banana", false}, swap{"a", "x", "banana", nth, true, "banana", false})
	}
}

func TestSubstUpToMaxTextBytes(t *testing.T) {
	for _, global := range []bool{false, true} {
		wantSwaps(t,
			swap{"a", as(api.MaxText), "a", 1, global, as(api.MaxText), true}, swap{"x", as(api.MaxText - 2), "axb", 1, global, "a" + as(api.MaxText-2) + "b", true},
			swap{"x", as(api.MaxText - 1), "axb", 1, global, "axb", false}, swap{"x", as(api.MaxText), "xb", 1, global, "xb", false}, swap{"x", as(api.MaxText), "ax", 1, global, "ax", false}, swap{"x", as(api.MaxText) + "&", "x", 1, global, "x", false}, swap{"x", as(300) + "&" + as(300), "x", 1, global, "x", false},
		)
	}
	s := as(50)
	wantSwaps(t,
		swap{"a", "12345678", s, 1, true, strings.Repeat("12345678", 50), true}, swap{"a", "123456789", s, 1, true, s, false}, swap{"a", "123456789", s, 1, false, "123456789" + s[1:], true},
		swap{"a", "123456789", s, 8, true, s[:7] + strings.Repeat("123456789", 43), true}, swap{"a", "123456789", s, 7, true, s, false}, swap{".*", "&&&&&&&&", s, 1, true, strings.Repeat(s, 8), true}, swap{".*", "&&&&&&&&b", s, 1, true, s, false},
	)
}
