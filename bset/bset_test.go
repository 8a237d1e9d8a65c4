package bset

import (
	"bytes"
	"slices"
	"strings"
	"testing"

	"gloss/api"
)

// none and all are written out as words, so that a fault of Of or Not can't hide in them.
var (
	none = api.Set{}
	all  = api.Set{^uint64(0), ^uint64(0), ^uint64(0), ^uint64(0)}
)

// wantSet holds the words of s themselves against the rule, not by way of Has.
func wantSet(t *testing.T, name string, s api.Set, in func(b int) bool) {
	t.Helper()
	for b := range 256 {
		if has := s[b/64]>>(b%64)&1 == 1; has != in(b) {
			t.Errorf("%s: byte %d: %v", name, b, has)
		}
	}
}

// someSets are sets of several kinds: none, all, one, at the ends of words, a mixed one.
func someSets() []api.Set {
	sets := []api.Set{none, all, {1}, {0, 0, 0, 1 << 63}, {1 << 63, 1}, {0, 1 << 63, 1}, {0, 0, 1 << 63, 1}, {0, ^uint64(0)}}
	var mixed api.Set
	for i := range mixed {
		mixed[i] = 0x9e3779b97f4a7c15 * uint64(i+1)
	}
	return append(sets, mixed)
}

// P2.1

func TestOfHasJustThese(t *testing.T) {
	for _, q := range [][]byte{nil, {}, {0}, {255}, {0, 255}, {63, 64}, {127, 128}, {191, 192}, {'b', 'a', 'b'}, {7, 7, 7}, []byte("gloss\n\x80")} {
		wantSet(t, "of", Of(q...), func(b int) bool { return bytes.IndexByte(q, byte(b)) >= 0 })
	}
	if Of() != none {
		t.Error(Of())
	}
	if s := Of(64, 127, 128, 255); s != (api.Set{0, 1 | 1<<63, 1, 1 << 63}) {
		t.Error(s)
	}
}

func TestOfTakesAllBytes(t *testing.T) {
	var bs []byte
	for b := 255; b >= 0; b-- {
		bs = append(bs, byte(b), byte(b))
		wantSet(t, "from behind", Of(bs...), func(c int) bool { return c >= b })
		wantSet(t, "one", Of(byte(b)), func(c int) bool { return c == b })
	}
	if Of(bs...) != all {
		t.Error(Of(bs...))
	}
}

func TestOfLeavesItsListAlone(t *testing.T) {
	room := []byte{9, 3, 200, 100}
	s := Of(room[:2]...)
	wantSet(t, "ahead of the room", s, func(b int) bool { return b == 3 || b == 9 })
	if !slices.Equal(room, []byte{9, 3, 200, 100}) {
		t.Error(room)
	}
	room[0] = 50
	wantSet(t, "not kept", s, func(b int) bool { return b == 3 || b == 9 })
}

func TestRangeOfEveryTwoBytes(t *testing.T) {
	for from := range 256 {
		for to := range 256 {
			wantSet(t, "range", Range(byte(from), byte(to)), func(b int) bool { return from <= b && b <= to })
		}
	}
}

func TestRangeEnds(t *testing.T) {
	if Range(0, 255) != all {
		t.Error("all", Range(0, 255))
	}
	if Range(1, 0) != none || Range(255, 0) != none || Range(255, 254) != none || Range('b', 'a') != none {
		t.Error("to below from")
	}
	if Range(0, 0) != (api.Set{1}) || Range(255, 255) != (api.Set{0, 0, 0, 1 << 63}) || Range('a', 'a') != Of('a') {
		t.Error("one byte")
	}
	if Range(63, 64) != (api.Set{1 << 63, 1}) {
		t.Error("over the end of a word")
	}
}

func TestHasAsksTheBit(t *testing.T) {
	for _, s := range someSets() {
		wantSet(t, "has", s, func(b int) bool { return Has(s, byte(b)) })
	}
	if Has(none, 0) || Has(none, 255) || !Has(all, 0) || !Has(all, 255) {
		t.Error("ends")
	}
}

func TestCountAndBytesTellTheSame(t *testing.T) {
	for _, s := range someSets() {
		var want []byte
		for b := range 256 {
			if s[b/64]>>(b%64)&1 == 1 {
				want = append(want, byte(b))
			}
		}
		if Count(s) != len(want) || !bytes.Equal(Bytes(s), want) {
			t.Error(s, Count(s), Bytes(s))
		}
		if Of(Bytes(s)...) != s {
			t.Error("not back", s)
		}
	}
	if Count(none) != 0 || Bytes(none) != nil || Count(all) != 256 || len(Bytes(all)) != 256 {
		t.Error("ends")
	}
}

func TestBytesRise(t *testing.T) {
	if got := Bytes(Of(255, 'z', 0, 'a', 128, 64, 63)); !bytes.Equal(got, []byte{0, 63, 64, 'a', 'z', 128, 255}) {
		t.Error(got)
	}
}

func TestBytesAreNewMemory(t *testing.T) {
	s := Of(1, 2, 3)
	first := Bytes(s)
	for i := range first[:cap(first)] {
		first[:cap(first)][i] = 99
	}
	if second := Bytes(s); !bytes.Equal(second, []byte{1, 2, 3}) {
		t.Error(second)
	}
}

func TestOnlyIsTheOne(t *testing.T) {
	for b := range 256 {
		if got, ok := Only(Of(byte(b))); got != byte(b) || !ok {
			t.Error(b, got, ok)
		}
		if got, ok := Only(Of(byte(b), byte(b+1))); got != 0 || ok {
			t.Error("two", b, got, ok)
		}
		if got, ok := Only(Of(byte(b), byte(b+64))); got != 0 || ok {
			t.Error("one of each of two words", b, got, ok)
		}
		if got, ok := Only(Not(Of(byte(b)))); got != 0 || ok {
			t.Error("all but one", b, got, ok)
		}
	}
	for _, s := range []api.Set{none, all} {
		if got, ok := Only(s); got != 0 || ok {
			t.Error(s, got, ok)
		}
	}
}

// P2.2

func TestJoinIsWhatIsInOne(t *testing.T) {
	sets := someSets()
	for _, r := range sets {
		for _, s := range sets {
			for _, u := range sets {
				wantSet(t, "join", Join(r, s, u), func(b int) bool { return (r[b/64]|s[b/64]|u[b/64])>>(b%64)&1 == 1 })
			}
		}
	}
}

func TestJoinOfFewAndMany(t *testing.T) {
	if Join() != none || Join([]api.Set(nil)...) != none || Join([]api.Set{}...) != none || Join(none, none) != none {
		t.Error("none of none")
	}
	for _, s := range someSets() {
		if Join(s) != s || Join(s, s) != s || Join(s, none) != s || Join(none, s) != s || Join(s, all) != all {
			t.Error(s)
		}
	}
	var ones []api.Set
	for b := range 256 {
		ones = append(ones, Of(byte(b)))
		if Count(Join(ones...)) != b+1 {
			t.Error(b, Join(ones...))
		}
	}
	if Join(ones...) != all {
		t.Error(Join(ones...))
	}
	if s := Join(Range('a', 'c'), Of('z')); Count(s) != 4 || string(Bytes(s)) != "abcz" {
		t.Error(s)
	}
}

func TestJoinLeavesItsListAlone(t *testing.T) {
	room := []api.Set{Of(1), Of(2), Of(3)}
	s := Join(room[:2]...)
	if s != Of(1, 2) || !slices.Equal(room, []api.Set{Of(1), Of(2), Of(3)}) {
		t.Error(s, room)
	}
	room[0] = all
	if s != Of(1, 2) {
		t.Error("kept", s)
	}
}

func TestNotIsAllOthers(t *testing.T) {
	for _, s := range someSets() {
		was := s
		wantSet(t, "not", Not(s), func(b int) bool { return s[b/64]>>(b%64)&1 == 0 })
		if s != was || Not(Not(s)) != s || Join(s, Not(s)) != all || Count(s)+Count(Not(s)) != 256 {
			t.Error(s)
		}
	}
	if Not(none) != all || Not(all) != none {
		t.Error("ends")
	}
}

// P2.3

const (
	upperBytes = "ABCDEFGHIJKLMNOPQRSTUVWXYZ"
	lowerBytes = "abcdefghijklmnopqrstuvwxyz"
	digitBytes = "0123456789"
	punctBytes = "!\"#$%&'()*+,-./:;<=>?@[\\]^_`{|}~"
	cntrlBytes = "\x00\x01\x02\x03\x04\x05\x06\x07\x08\x09\x0a\x0b\x0c\x0d\x0e\x0f" +
		"\x10\x11\x12\x13\x14\x15\x16\x17\x18\x19\x1a\x1b\x1c\x1d\x1e\x1f\x7f"
)

// classes are the names and, written out, the bytes of all classes.
func classes() map[string]string {
	return map[string]string{
		"alpha":  upperBytes + lowerBytes,
		"digit":  digitBytes,
		"alnum":  upperBytes + lowerBytes + digitBytes,
		"upper":  upperBytes,
		"lower":  lowerBytes,
		"space":  " \t\n\v\f\r",
		"blank":  " \t",
		"punct":  punctBytes,
		"print":  " " + upperBytes + lowerBytes + digitBytes + punctBytes,
		"graph":  upperBytes + lowerBytes + digitBytes + punctBytes,
		"cntrl":  cntrlBytes,
		"xdigit": digitBytes + "ABCDEFabcdef",
	}
}

func TestClassByItsName(t *testing.T) {
	for name, want := range classes() {
		s, ok := Class(name)
		if !ok || Count(s) != len(want) {
			t.Error(name, ok, Count(s))
		}
		wantSet(t, name, s, func(b int) bool { return strings.IndexByte(want, byte(b)) >= 0 })
	}
}

func TestClassOfNoName(t *testing.T) {
	names := []string{"", " ", "word", "ascii", "any", "Alpha", "ALPHA", "alpha ", " alpha", "[:alpha:]", ":alpha:", "alphaalpha", "alpha\x00", "alpha\n", "alph", "lpha", "digits", "xDigit", "\xff", "\u00e9", strings.Repeat("a", 5000)}
	for name := range classes() {
		names = append(names, strings.ToUpper(name), strings.ToUpper(name[:1])+name[1:], name[:len(name)-1], name[1:]+"s", name+name[:1], "\x00"+name)
	}
	for _, name := range names {
		if s, ok := Class(name); ok || s != none {
			t.Errorf("%q: %v %v", name, s, ok)
		}
	}
}
