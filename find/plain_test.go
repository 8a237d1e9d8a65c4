package find

import (
	"math/rand"
	"slices"
	"testing"

	"gloss/api"
	"gloss/rx"
	"gloss/way"
)

// plainFirst finds as the chapter says it, of all ways.
func plainFirst(r api.Rx, s string, from int) (api.Match, bool) {
	if from < 0 || from > len(s) {
		return way.None(), false
	}
	for at := from; at <= len(s); at++ {
		l := way.Ways(r, s, true, at)
		if len(l) == 0 {
			continue
		}
		far := l[0]
		for _, x := range l {
			if x.At > far.At {
				far = x
			}
		}
		m := far.Match
		m[0] = api.Span{From: at, To: far.At}
		return m, true
	}
	return way.None(), false
}

func plainAll(r api.Rx, s string) []api.Match {
	var l []api.Match
	m, ok := plainFirst(r, s, 0)
	for ok {
		l = append(l, m)
		end := m[0].To
		if m[0].From == end {
			m, ok = plainFirst(r, s, end+1)
			continue
		}
		m, ok = plainFirst(r, s, end)
		if ok && m[0].From == end && m[0].To == end {
			m, ok = plainFirst(r, s, end+1)
		}
	}
	return l
}

// wantPlain asks that what is found of r in s is what all ways say.
func wantPlain(t *testing.T, r api.Rx, s string) {
	t.Helper()
	for from := -1; from <= len(s)+1; from++ {
		m, ok := First(r, s, from)
		if want, there := plainFirst(r, s, from); m != want || ok != there {
			t.Errorf("%s in %q from %d: %v, %v; not %v, %v", rx.Print(r, true), s, from, m, ok, want, there)
		}
	}
	want := plainAll(r, s)
	if got := All(r, s); !slices.Equal(got, want) {
		t.Errorf("%s in %q: %s; not %s", rx.Print(r, true), s, told(got...), told(want...))
	}
	if Has(r, s) != (len(want) > 0) {
		t.Errorf("%s in %q: has %v", rx.Print(r, true), s, Has(r, s))
	}
}

// grown are rows, choices, repetitions and groups of one or two of small.
func grown(small []api.Rx) []api.Rx {
	l := slices.Clone(small)
	for _, x := range small {
		l = append(l, rep(0, -1, x), rep(1, -1, x), rep(0, 1, x), rep(2, 3, x), group(1, x), group(2, x))
		for _, y := range small {
			l = append(l, cat(x, y), alt(x, y))
		}
	}
	return l
}

func TestSmallExpressionsAreFoundAsThePlainOnes(t *testing.T) {
	count := 0
	for _, r := range grown(grown([]api.Rx{cat(), set("a"), set("b"), backTo(1), first(), last()})) {
		if !rx.Right(r, true) {
			continue
		}
		count++
		for _, s := range []string{"", "ab", "aab", "babba"} {
			wantPlain(t, r, s)
		}
	}
	if count < 1800 {
		t.Error(count)
	}
}

// pieces are what expressions by chance are put together of.
func pieces() []string {
	return []string{"a", "b", "a*", "b*", ".", "(a)", "(a|b)", "(b*)", "(a*b?)", "(ab|a|)", "(a|ab)*", "(a*|b)+", "((a)|b)*", "(a|(b*))?", `\1`, `\1*`, `\2`, "|", "^", "$", "{2}", "?", "()", "(|b)"}
}

func TestExpressionsByChanceAreFoundAsThePlainOnes(t *testing.T) {
	chance := rand.New(rand.NewSource(6))
	count := 0
	for range 30000 {
		e := ""
		for range 1 + chance.Intn(6) {
			e += pieces()[chance.Intn(len(pieces()))]
		}
		r, _, err := rx.Parse(e, true)
		if err != api.OK {
			continue
		}
		s := []byte("aaaaaaaaaa")[:chance.Intn(11)]
		for i := range s {
			s[i] += byte(chance.Intn(2))
		}
		wantPlain(t, r, string(s))
		count++
	}
	if count < 5000 {
		t.Error(count)
	}
}

func FuzzFind(f *testing.F) {
	for _, s := range []string{"a*", "(a|ab)(c|bcd)", "((a*)*)*", `(a|b\1){2,}$`, `((a)|\2b?)*\1`, "^(|a|(b)*)+", "((((((", "[^a]{1,20}"} {
		f.Add(s, "aabcd")
		f.Add(s, "abab")
	}
	f.Fuzz(func(t *testing.T, e, s string) {
		r, _, err := rx.Parse(e, true)
		if err != api.OK || len(s) > api.MaxSpace {
			wantNothing(t, e, r, s)
			return
		}
		if len(s) <= 12 { // of longer ones there may be too many ways
			wantPlain(t, r, s)
		}
	})
}
