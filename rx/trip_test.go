package rx

import (
	"slices"
	"testing"

	"gloss/api"
	"gloss/bset"
)

// P4.4

// wantBack asks that what r prints to is read as r.
func wantBack(t *testing.T, r api.Rx, ere bool) string {
	t.Helper()
	s := Print(r, ere)
	got, at, err := Parse(s, ere)
	if err != api.OK || at != 0 || !Same(got, r) {
		t.Errorf("%v: %v prints to %q, which is read as %v, %d, %d", ere, r, s, got, at, err)
	}
	return s
}

// grown are rows, choices, repetitions and groups of one or two of small.
func grown(small []api.Rx) []api.Rx {
	l := slices.Clone(small)
	for _, x := range small {
		l = append(l, rep(0, -1, x), rep(1, -1, x), rep(0, 1, x), rep(2, 2, x), rep(2, -1, x), rep(3, 20, x), group(1, x), group(2, x))
		for _, y := range small {
			l = append(l, cat(x, y), alt(x, y), cat(x, y, x), alt(cat(), x, y))
		}
	}
	return l
}

func TestWhatIsPrintedIsParsed(t *testing.T) {
	leaves := []api.Rx{cat(), set("a"), set("*"), set("^"), set("$"), set("\\"), set("{"), set("1"), set("n"), set("\n"), set("^-"), not("]"), dot(), backTo(1), first(), last()}
	few := []api.Rx{set("*"), set("a"), backTo(1), first(), last(), cat()}
	all := append(grown(leaves), grown(grown(few))...)
	for _, ere := range []bool{false, true} {
		said := map[string]api.Rx{}
		for _, r := range all {
			if !Right(r, ere) {
				continue
			}
			s := wantBack(t, r, ere)
			if other, there := said[s]; there && !Same(other, r) {
				t.Errorf("%v: %q is both %v and %v", ere, s, r, other)
			}
			said[s] = r
		}
		if len(said) < 1000 {
			t.Error(ere, len(said))
		}
	}
}

func TestPrintedSetsAreParsed(t *testing.T) {
	// Those that mean something in brackets, each with each.
	odd := []byte("]^-[:.=\\a\n/0")
	for mask := 1; mask < 1<<len(odd); mask++ {
		var s api.Set
		for i, b := range odd {
			if mask>>i&1 == 1 {
				s = bset.Join(s, bset.Of(b))
			}
		}
		for _, set := range []api.Set{s, bset.Not(s), bset.Join(s, bset.Range(128, 255)), bset.Not(bset.Join(s, bset.Range(140, 200)))} {
			wantBack(t, oneSet(set), mask%2 == 0)
			wantBack(t, cat(first(), rep(0, -1, oneSet(set)), twice(set)), mask%2 == 1)
		}
	}
	for n := range 255 {
		wantBack(t, oneSet(bset.Range(byte(n), 255)), false)
		wantBack(t, oneSet(bset.Range(0, byte(n))), true)
		wantBack(t, not(string([]byte{byte(n)})), true)
	}
}

func twice(s api.Set) api.Rx { return rep(2, 2, oneSet(s)) }

// allTexts calls f with all texts of at most n of these bytes.
func allTexts(bytes string, n int, f func(s string)) {
	f("")
	if n == 0 {
		return
	}
	for i := range len(bytes) {
		allTexts(bytes, n-1, func(s string) { f(s + bytes[i:i+1]) })
	}
}

// wantWhole asks of any text: it is refused at a byte, or what it is read as prints to what is read as it.
func wantWhole(t *testing.T, s string, ere bool) {
	t.Helper()
	r, at, err := Parse(s, ere)
	switch err {
	case api.OK:
		if at != 0 || !Right(r, ere) {
			t.Errorf("%q, %v: %v, %d", s, ere, r, at)
		}
		wantBack(t, r, ere)
	case api.ErrForm, api.ErrDeep, api.ErrBig:
		if at < 0 || at > len(s) || !Same(r, api.Rx{}) {
			t.Errorf("%q, %v: %v, %d, %d", s, ere, r, at, err)
		}
	default:
		t.Errorf("%q, %v: %d", s, ere, err)
	}
}

func TestAnyTextIsRefusedOrRead(t *testing.T) {
	for _, q := range []struct {
		bytes string
		n     int
	}{
		{"\\(){}*^$[]|+?1,a-", 4},
		{"\\()*^$", 6},
		{"(|)*a", 6},
		{"[]^-ab:", 5},
		{"a{}\\12,0", 5},
	} {
		allTexts(q.bytes, q.n, func(s string) {
			wantWhole(t, s, false)
			wantWhole(t, s, true)
		})
	}
}

func FuzzParse(f *testing.F) {
	for _, s := range []string{"", `a\(b*\)\1$`, "(a|b)+", "[^a]", "a|b", "*a", "[[:alpha:]-]", `a\{2,20\}`, "a{1,}", "((((((((", "[a-\xff]{3}", `\`, "[", "x{99999999999999999999}"} {
		f.Add(s, true)
		f.Add(s, false)
	}
	f.Fuzz(func(t *testing.T, s string, ere bool) { wantWhole(t, s, ere) })
}

// R2

// lists are all lists of kids in r.
func lists(r api.Rx) [][]api.Rx {
	var l [][]api.Rx
	if cap(r.Kids) > 0 {
		l = append(l, r.Kids[:cap(r.Kids)])
	}
	for _, kid := range r.Kids {
		l = append(l, lists(kid)...)
	}
	return l
}

func TestWhatIsHandedInStaysAsItWas(t *testing.T) {
	r := copyOf(cat(group(1, rep(0, -1, set("a"))), group(2, alt(backTo(1), cat(set("b"), dot()))), first(), last()))
	for _, l := range lists(r) {
		for i := range l[:cap(l)] {
			if Same(l[i], api.Rx{}) {
				l[i] = set("spare")
			}
		}
	}
	var before [][]api.Rx
	for _, l := range lists(r) {
		before = append(before, slices.Clone(l))
	}
	Nodes(r)
	Groups(r)
	Same(r, copyOf(r))
	for _, ere := range []bool{false, true} {
		Right(r, ere)
		Print(r, ere)
	}
	for i, l := range lists(r) {
		if !slices.EqualFunc(l, before[i], Same) {
			t.Error(i)
		}
	}
}

func TestWhatIsReadSharesNothing(t *testing.T) {
	const s = "(a|b*|cd)(ab)\\1+[xyz]{2,3}()"
	r, _, _ := Parse(s, true)
	again, _, _ := Parse(s, true)
	want := copyOf(again)
	for _, l := range lists(r) {
		for i := range l {
			l[i] = api.Rx{Kind: -1}
		}
	}
	if !Same(again, want) {
		t.Error("two answers share memory")
	}
	// No list of an answer reaches into another one, not even by its spare room.
	all := lists(again)
	for i, l := range all {
		kept := make([][]api.Rx, len(all))
		for j := range all {
			kept[j] = slices.Clone(all[j])
		}
		for k := range l {
			l[k].N = -7
		}
		for j := range all {
			if j != i && !slices.EqualFunc(all[j], kept[j], func(a, b api.Rx) bool { return a.N == b.N }) {
				t.Error(i, j)
			}
		}
		copy(l, kept[i])
	}
	if r, at, err := Parse(s, true); err != api.OK || at != 0 || !Same(r, want) {
		t.Error("a later answer hangs on an earlier one")
	}
}
