package mark

import (
	"math"
	"slices"
	"strings"
	"testing"
)

// top is the greatest number that marks are promised for.
const top = 1 << 40

func wantMark(t *testing.T, name string, m complex128, lines, bytes int) {
	t.Helper()
	if Lines(m) != lines || Bytes(m) != bytes {
		t.Errorf("%s: %d lines, %d bytes; want %d, %d", name, Lines(m), Bytes(m), lines, bytes)
	}
}

// P1.1

func TestOfGivesItsPartsBack(t *testing.T) {
	numbers := []int{0, 1, 2, 9, 10, 255, 1<<24 + 1, 1<<31 - 1, 1 << 31, 1<<32 + 1, top - 1, top}
	for _, lines := range numbers {
		for _, bytes := range numbers {
			wantMark(t, "of", Of(lines, bytes), lines, bytes)
		}
	}
}

func TestOfHoldsLinesAsRealPart(t *testing.T) {
	if m := Of(3, 7); real(m) != 3 || imag(m) != 7 {
		t.Error(m)
	}
	if Of(0, 0) != 0 {
		t.Error("no lines and no bytes are no mark")
	}
}

func TestSumAddsPartByPart(t *testing.T) {
	wantMark(t, "nothing", Sum(), 0, 0)
	wantMark(t, "nil", Sum([]complex128(nil)...), 0, 0)
	wantMark(t, "empty", Sum([]complex128{}...), 0, 0)
	wantMark(t, "one", Sum(Of(4, 9)), 4, 9)
	wantMark(t, "two", Sum(Of(1, 5), Of(2, 7)), 3, 12)
	wantMark(t, "zeros", Sum(Of(0, 0), Of(0, 0)), 0, 0)
	wantMark(t, "lines alone", Sum(Of(2, 0), Of(3, 0)), 5, 0)
	wantMark(t, "bytes alone", Sum(Of(0, 2), Of(0, 3)), 0, 5)
	wantMark(t, "far", Sum(Of(top, 0), Of(1, top), Of(0, 1)), top+1, top+1)
}

func TestSumLeavesItsListAlone(t *testing.T) {
	room := []complex128{Of(1, 2), Of(3, 4), Of(5, 6)}
	wantMark(t, "ahead of the room", Sum(room[:2]...), 4, 6)
	if !slices.Equal(room, []complex128{Of(1, 2), Of(3, 4), Of(5, 6)}) {
		t.Error(room)
	}
}

func TestLessTakesPartByPart(t *testing.T) {
	wantMark(t, "both", Less(Of(3, 12), Of(2, 7)), 1, 5)
	wantMark(t, "itself", Less(Of(3, 12), Of(3, 12)), 0, 0)
	wantMark(t, "nothing", Less(Of(3, 12), Of(0, 0)), 3, 12)
	wantMark(t, "below 0", Less(Of(1, 1), Of(2, 7)), -1, -6)
	wantMark(t, "one below 0", Less(Of(2, 1), Of(1, 7)), 1, -6)
	wantMark(t, "far", Less(Of(top, top), Of(1, top-1)), top-1, 1)
	wantMark(t, "all of it", Less(Of(0, 0), Of(top, top)), -top, -top)
}

func TestFitsAsksBothParts(t *testing.T) {
	for _, q := range []struct {
		a, b complex128
		fits bool
	}{
		{Of(0, 0), Of(0, 0), true},
		{Of(1, 5), Of(1, 5), true},
		{Of(0, 4), Of(1, 5), true},
		{Of(0, 5), Of(1, 5), true},
		{Of(1, 4), Of(1, 5), true},
		{Of(2, 5), Of(1, 5), false},
		{Of(1, 6), Of(1, 5), false},
		{Of(2, 1), Of(1, 9), false},
		{Of(1, 9), Of(2, 1), false},
		{Of(2, 6), Of(1, 5), false},
		{Of(0, 0), Of(top, top), true},
		{Of(top, top), Of(top, top), true},
		{Of(top, top), Of(top-1, top), false},
		{Of(top, top), Of(top, top-1), false},
	} {
		if Fits(q.a, q.b) != q.fits {
			t.Error(q.a, q.b, !q.fits)
		}
	}
}

// P1.2

func TestLineCountsItsLineEnd(t *testing.T) {
	wantMark(t, "empty", Line(""), 1, 1)
	wantMark(t, "bytes", Line("abc"), 1, 4)
	wantMark(t, "bytes, not runes", Line("\u00e9"), 1, 3)
	wantMark(t, "not UTF-8", Line("\xff\x00"), 1, 3)
	wantMark(t, "with line ends", Line("a\nb\n"), 1, 5)
	wantMark(t, "long", Line(strings.Repeat("x", 5000)), 1, 5001)
}

func TestTextCountsLinesAndBytes(t *testing.T) {
	for _, q := range []struct {
		s     string
		lines int
	}{
		{"", 0},
		{"a", 1},
		{"a\n", 1},
		{"a\nb", 2},
		{"a\nb\n", 2},
		{"\n", 1},
		{"\n\n", 2},
		{"\na", 2},
		{"\n\nx", 3},
		{"\r", 1},
		{"\r\n", 1},
		{"a\rb", 1},
		{"\x00", 1},
		{"\n\x00", 2},
		{"\xff\n\xfe", 2},
		{"\u00e9\n", 1},
		{"\u2028\u0085\v\f", 1},
		{strings.Repeat("ab\n", 1000), 1000},
		{strings.Repeat("ab\n", 1000) + "c", 1001},
	} {
		wantMark(t, q.s, Text(q.s), q.lines, len(q.s))
	}
}

func TestTextOfLinesIsTheSumOfThem(t *testing.T) {
	lines := []string{"", "a", "bc", "", "def"}
	text, sum := "", Sum()
	for _, s := range lines {
		text += s + "\n"
		sum = Sum(sum, Line(s))
		if Text(text) != sum {
			t.Error(text, Text(text), sum)
		}
	}
}

// P1.3

func TestSumDoesNotHangOnTheOrder(t *testing.T) {
	ms := []complex128{Of(1, 5), Of(0, 0), Of(top, 1), Of(2, top), Of(7, 3)}
	want := Sum(ms...)
	wantMark(t, "sum", want, top+10, top+9)
	eachOrder(ms, 0, func(order []complex128) {
		if Sum(order...) != want {
			t.Error(order, Sum(order...), want)
		}
	})
}

// eachOrder shows every order of ms, the first i of them staying where they are.
func eachOrder(ms []complex128, i int, show func([]complex128)) {
	if i == len(ms) {
		show(ms)
		return
	}
	for j := i; j < len(ms); j++ {
		ms[i], ms[j] = ms[j], ms[i]
		eachOrder(ms, i+1, show)
		ms[i], ms[j] = ms[j], ms[i]
	}
}

func TestSumDoesNotHangOnTheGroups(t *testing.T) {
	a, b, c := Of(top, 3), Of(5, top), Of(top-1, 9)
	if Sum(Sum(a, b), c) != Sum(a, Sum(b, c)) || Sum(Sum(a, b), c) != Sum(a, b, c) {
		t.Error(Sum(Sum(a, b), c), Sum(a, Sum(b, c)), Sum(a, b, c))
	}
}

func TestGreatSumDoesNotHangOnTheOrder(t *testing.T) {
	var ms []complex128
	for range 1 << 14 {
		ms = append(ms, Of(top, top-1))
	}
	for range 8 {
		ms = append(ms, Of(1, 3))
	}
	want := Sum(ms...)
	wantMark(t, "great first", want, 1<<54+8, 1<<54-1<<14+24)
	slices.Reverse(ms)
	if Sum(ms...) != want {
		t.Error("small first", Sum(ms...), want)
	}
	mid := len(ms) / 2
	if turned := slices.Concat(ms[mid:], ms[:mid]); Sum(turned...) != want {
		t.Error("small in the middle", Sum(turned...), want)
	}
}

func TestWhatIsAddedIsTakenAwayAgain(t *testing.T) {
	marks := []complex128{Of(0, 0), Of(1, 0), Of(0, 1), Of(3, 7), Of(1<<31, 1<<32+1), Of(top-1, top), Of(top, top)}
	for _, a := range marks {
		for _, b := range marks {
			both := Sum(a, b)
			if Less(both, b) != a || Less(both, a) != b {
				t.Error(a, b, both)
			}
			if Sum(Less(a, b), b) != a {
				t.Error(a, b, Less(a, b))
			}
		}
	}
}

// Of other numbers nothing is promised but that every call ends and none panics.

func TestAnyNumbersEnd(t *testing.T) {
	ints := []int{math.MinInt, math.MinInt + 1, -top, -1, 0, 1, top + 1, 1<<53 + 1, math.MaxInt}
	floats := []float64{math.NaN(), math.Inf(1), math.Inf(-1), math.MaxFloat64, -math.MaxFloat64, math.SmallestNonzeroFloat64, math.Copysign(0, -1), 0.5, -0.5, 1e300}
	var marks []complex128
	for _, a := range ints {
		for _, b := range ints {
			marks = append(marks, Of(a, b))
		}
	}
	for _, a := range floats {
		for _, b := range floats {
			marks = append(marks, complex(a, b))
		}
	}
	for _, a := range marks {
		Lines(a)
		Bytes(a)
		for _, b := range marks {
			Fits(a, b)
			Less(a, b)
			Sum(a, b)
		}
	}
	Sum(marks...)
}
