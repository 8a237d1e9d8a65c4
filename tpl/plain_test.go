package tpl

import (
	"math/rand"
	"regexp"
	"slices"
	"strings"
	"testing"

	"gloss/api"
	"gloss/find"
	"gloss/rx"
)

var sign = regexp.MustCompile(`(?s)\A(&|\\[1-9n&/\\]|[^\\/&\n])`)

// plainParse reads as the chapter says it, sign by sign.
func plainParse(s string, groups int) ([]api.Piece, int, api.Errno) {
	var l []api.Piece
	at := 0
	for at < len(s) {
		g := sign.FindString(latin(s[at:]))
		p := api.Piece{Group: -1}
		switch {
		case g == "":
			return nil, at, api.ErrForm
		case g == "&":
			p.Group = 0
		case g == `\n`:
			p.Lit = "\n"
		case g[0] == '\\' && '1' <= g[1] && g[1] <= '9':
			p.Group = int(g[1] - '0')
		case g[0] == '\\':
			p.Lit = g[1:]
		default:
			p.Lit = s[at : at+1]
			g = p.Lit
		}
		if p.Group > groups {
			return nil, at, api.ErrForm
		}
		if n := len(l); p.Group == -1 && n > 0 && l[n-1].Group == -1 {
			l[n-1].Lit += p.Lit
			if len(l[n-1].Lit) > api.MaxText {
				return nil, at, api.ErrForm
			}
		} else {
			l = append(l, p)
		}
		at += len(g)
	}
	return l, 0, api.OK
}

// latin has a rune for each byte of s, so that a pattern goes over bytes.
func latin(s string) string {
	var l []rune
	for _, b := range []byte(s[:min(len(s), 2)]) {
		l = append(l, rune(b))
	}
	return string(l)
}

// wantWhole asks of any text: it is read as the plain reading says, and what it is read as prints to what is read as it.
func wantWhole(t *testing.T, s string, groups int) {
	t.Helper()
	l, at, err := Parse(s, groups)
	want, wantAt, wantErr := plainParse(s, groups)
	if !slices.Equal(l, want) || at != wantAt || err != wantErr {
		t.Errorf("%q, of %d groups: %v, %d, %d; not %v, %d, %d", s, groups, l, at, err, want, wantAt, wantErr)
	}
	if err != api.OK {
		return
	}
	if !Right(l, groups) {
		t.Errorf("%q, of %d groups: %v isn't right", s, groups, l)
	}
	wantRead(t, Print(l), groups, l)
}

// allTexts calls f with all texts of at most n of these bytes.
func allTexts(bytes string, n int, f func(s string)) {
	f("")
	if n == 0 {
		return
	}
	for i := range len(bytes) {
		allTexts(bytes, n-1, func(s string) { f(s + bytes[i:i+1]) })
	}
}

func TestAnyTextIsRefusedOrRead(t *testing.T) {
	for groups := range api.MaxGroups + 1 {
		allTexts("\\&/\nn012\xff", 4, func(s string) { wantWhole(t, s, groups) })
	}
}

// allRows calls f with all lists of at most n of these pieces.
func allRows(pieces []api.Piece, n int, f func(l []api.Piece)) {
	f(nil)
	if n == 0 {
		return
	}
	for _, p := range pieces {
		allRows(pieces, n-1, func(l []api.Piece) { f(append(slices.Clone(l), p)) })
	}
}

func TestWhatIsPrintedIsParsed(t *testing.T) {
	said := map[string][]api.Piece{}
	allRows(row(group(0), group(1), group(3), lit("1"), lit("n"), lit("\n"), lit(`\`), lit("&/"), lit("\x00\xff")), 4, func(l []api.Piece) {
		if !Right(l, 3) {
			return
		}
		s := Print(l)
		wantRead(t, s, 3, l)
		if other, there := said[s]; there && !slices.Equal(other, l) {
			t.Errorf("%q is both %v and %v", s, l, other)
		}
		said[s] = l
	})
	if len(said) < 1000 {
		t.Error(len(said))
	}
}

// plainSubst substitutes as the chapter says it, from the last match to the first.
func plainSubst(r api.Rx, l []api.Piece, s string, nth int, global bool) (string, bool) {
	ms := find.All(r, s)
	text, done := s, false
	for i, m := range slices.Backward(ms) {
		n := i + 1
		if n == max(nth, 1) || global && n > nth {
			text, done = text[:m[0].From]+Fill(l, m, s)+text[m[0].To:], true
		}
	}
	if len(text) > api.MaxText {
		return s, false
	}
	return text, done
}

func wantPlainSubst(t *testing.T, r api.Rx, l []api.Piece, s string) {
	t.Helper()
	for nth := -1; nth <= len(s)+2; nth++ {
		for _, global := range []bool{false, true} {
			want, ok := plainSubst(r, l, s, nth, global)
			wantSwap(t, r, l, swap{rx.Print(r, true), Print(l), s, nth, global, want, ok})
		}
	}
}

func TestSubstAsThePlainOne(t *testing.T) {
	for _, e := range []string{"", "a", "b", "a*", "a|b*", "(a)|(b)", "(a*)(b?)", "^a", "^|$", "a$", "(.)\\1", ".", "(a|(b))*c"} {
		for _, l := range []string{"", "x", "&", `<&>`, `\2\1`, `[\1|\2|\3]`, "a&b", `\&\n`} {
			r, l := ere(t, e), tpl(t, l)
			allTexts("abc", 4, func(s string) { wantPlainSubst(t, r, l, s) })
		}
	}
}

func TestSubstByChanceAsThePlainOne(t *testing.T) {
	chance := rand.New(rand.NewSource(7))
	some := func(pieces []string, n int) string {
		s := ""
		for range chance.Intn(n) {
			s += pieces[chance.Intn(len(pieces))]
		}
		return s
	}
	for range 1000 {
		r := ere(t, "("+some([]string{"a", "b", ".", "a*", "b?", "[ab]"}, 4)+")"+some([]string{"a", "b*", "(b)", "|", "$"}, 3))
		l := tpl(t, some([]string{"x", "&", `\1`, `\2`, `\3`, `\n`, "1", `\\`, strings.Repeat("y", 40)}, 8))
		s := some([]string{"a", "b", "ab", "\n", "bb"}, 20)
		wantPlainSubst(t, r, l, s)
	}
}

func FuzzParse(f *testing.F) {
	for _, s := range []string{"", `\2-\1&`, `a\&\/\\\nb`, "a\nb", "a/b", `ab\`, `\12`, `\0`, "&&", as(api.MaxText + 1)} {
		f.Add(s, 2)
		f.Add(s, 0)
	}
	f.Fuzz(func(t *testing.T, s string, groups int) {
		if groups >= 0 { // of fewer nothing can be written but texts
			wantWhole(t, s, groups)
		}
	})
}
