package cmd

import (
	"math"
	"slices"
	"strings"
	"testing"
	"unsafe"

	"gloss/api"
	"gloss/rx"
)

// R1

// endless is an expression that is in itself.
func endless() api.Rx {
	kids := []api.Rx{set("a"), {}}
	kids[1] = group(1, set("a"))
	kids[1].Kids = kids[1:]
	return kids[1]
}

// wide is an expression in which each of n is twice in the next.
func wide(n int) api.Rx {
	r := set("a")
	for range n {
		r = row(r, r)
	}
	return r
}

// deep is a group in a group, n of them.
func deep(n int) api.Rx {
	r := set("a")
	for range n {
		r = group(1, r)
	}
	return r
}

func TestExpressionsWithoutAnEnd(t *testing.T) {
	for _, r := range []api.Rx{endless(), wide(200), deep(1 << 16), row(slices.Repeat([]api.Rx{set("a")}, 1<<16)...)} {
		for _, op := range []byte(ops) {
			wantRight(t, false, at(op, match(r), none(), false), at(op, line(1), match(r), false), at(op, api.Addr{Rx: r}, none(), false), at(op, api.Addr{Kind: api.ALine, Line: 1, Rx: r}, none(), false), at(op, line(1), api.Addr{Kind: api.ALast, Rx: r}, false), with(op, func(c *api.Cmd) { c.Rx = r }))
		}
		for _, kind := range []int{api.ANone, api.ALine, api.ALast, api.AMatch, -1, 9} {
			if s := Addr(api.Addr{Kind: kind, Rx: r}, true); s != "" {
				t.Error(s)
			}
		}
		a := put(r, ref(1))
		if Same(a, put(set("a"), ref(1))) || Same(base('s'), a) || Same(a, api.Cmd{}) {
			t.Error("same")
		}
	}
	if a := put(deep(1 << 16)); !Same(a, a) {
		t.Error("not same")
	}
}

func TestWrongNumbers(t *testing.T) {
	for _, n := range []int{-1, -2, math.MinInt, math.MaxInt, 1 << 32, -1 << 32, 10000} {
		for op := range 256 {
			b := byte(op)
			wantRight(t, false, with(b, func(c *api.Cmd) { c.Nth = n }), at(b, line(n), none(), false), at(b, api.Addr{Kind: n}, none(), false), at(b, line(1), line(n), true), at(b, line(1), api.Addr{Kind: n, Line: 1}, false), with(b, func(c *api.Cmd) { c.Tpl = []api.Piece{ref(n)} }))
			for _, r := range []api.Rx{{Kind: n}, {Kind: api.RSet, Set: set("a").Set, Min: n}, {Kind: api.RRep, Min: n, Max: n, Kids: []api.Rx{set("a")}}, {Kind: api.RGroup, N: n, Kids: []api.Rx{set("a")}}, {Kind: api.RBack, N: n}} {
				wantRight(t, false, with(b, func(c *api.Cmd) { c.Rx = r }), at(b, match(r), none(), false))
			}
		}
	}
}

func TestLongTextsAndLists(t *testing.T) {
	long := strings.Repeat("a\n\\/", 1<<18)
	for op := range 256 {
		b := byte(op)
		wantRight(t, false, texted(b, long), with(b, func(c *api.Cmd) { c.Y, c.Z = long, long }), with(b, func(c *api.Cmd) { c.Y = long }), with(b, func(c *api.Cmd) { c.Tpl = slices.Repeat([]api.Piece{lit("a")}, 1000) }))
	}
	if Label(long) || !Same(texted('a', long), texted('a', strings.Clone(long))) || Same(texted('a', long), texted('a', long+"a")) {
		t.Error("long")
	}
	// No limit is set to how many pieces there are.
	c := put(set("a"), slices.Repeat([]api.Piece{ref(0)}, 10000)...)
	if Print(c, false) != "s/a/"+strings.Repeat("&", 10000)+"/" {
		t.Error("pieces")
	}
}

// R2

func TestWhatIsHandedInStaysAsItWas(t *testing.T) {
	l := append(changes(), full(), put(set("/"), lit("/"), ref(0)), swap("/\n\\", "abc"), texted('a', "\\\n"))
	for _, op := range []byte(ops) {
		l = append(l, at(op, match(row(set("a"), set("b"))), match(group(1, set("/"))), true))
	}
	for i, c := range l {
		kept := copyOf(c)
		for _, ere := range []bool{false, true} {
			Right(c, ere)
			Print(c, ere)
			Addr(c.A, ere)
			Addr(c.B, ere)
		}
		Same(c, full())
		Same(full(), c)
		if !Same(c, kept) {
			t.Errorf("%d: %+v was %+v", i, c, kept)
		}
	}
}

// spared is a right command whose lists have room behind them, and what stands in them and there.
func spared() (api.Cmd, []api.Piece, []api.Rx) {
	pieces := []api.Piece{lit("a&"), ref(1), lit("spare"), ref(-5)}
	kids := []api.Rx{group(1, set("a")), star(set("b")), {Kind: 77}, row(row())}
	r := api.Rx{Kind: api.RCat, Kids: kids[:2]}
	c := put(r, pieces[:2]...)
	c.A, c.B = match(r), last()
	return c, pieces, kids
}

func TestSpareRoomIsNeitherReadNorWritten(t *testing.T) {
	c, pieces, kids := spared()
	other, wantPieces, wantKids := spared()
	other.Tpl, other.Rx.Kids = slices.Clip(slices.Clone(other.Tpl)), slices.Clip(slices.Clone(other.Rx.Kids))
	if got := Print(c, true); got != `/(a)b*/,$s/(a)b*/a\&\1/` || !Right(c, true) || !Same(c, other) || !Same(other, c) {
		t.Error(got)
	}
	if !slices.Equal(pieces, wantPieces) || !slices.EqualFunc(kids, wantKids, rx.Same) {
		t.Error(pieces, kids)
	}
}

// shares tells whether a text lies in the memory of another one.
func shares(a, b string) bool {
	if a == "" || b == "" {
		return false
	}
	at, from := uintptr(unsafe.Pointer(unsafe.StringData(a))), uintptr(unsafe.Pointer(unsafe.StringData(b)))
	return from < at+uintptr(len(a)) && at < from+uintptr(len(b))
}

func TestTextsHandedOutAreNewMemory(t *testing.T) {
	text, name, y := strings.Clone(as(40)), strings.Clone("label_12"), strings.Clone("abcdefghijklmnopqrstuvwxyz")
	own := lit(text)
	for _, c := range []api.Cmd{texted('a', text), texted('c', text), texted('b', name), texted(':', name), texted('w', name), flagged(true, true, 9, name), put(set("a"), own), swap(y, y)} {
		s := Print(c, true)
		if s == "" || shares(s, text) || shares(s, name) || shares(s, y) {
			t.Errorf("%q", s)
		}
		again := Print(c, true)
		if s != again {
			t.Errorf("%q, then %q", s, again)
		}
	}
}

// FuzzPrint holds the texts of any two commands of one Op against each other.
func FuzzPrint(f *testing.F) {
	f.Add(byte('a'), "x\\", "x\n", "", "", "", "", 1, 2)
	f.Add(byte('y'), "", "", "ab", "/\n", "a/", "\\b", 0, 0)
	f.Add(byte('s'), "out", "", "", "", "", "", 0, 99)
	f.Fuzz(func(t *testing.T, op byte, text, text2, y, z, y2, z2 string, n, n2 int) {
		a, b := base(op), base(op)
		a.Text, a.Y, a.Z = text, y, z
		b.Text, b.Y, b.Z = text2, y2, z2
		if kind(op) == subst {
			a.Nth, b.Nth = n, n2
		} else {
			a.A, b.A = line(n), line(n2)
		}
		if s, s2 := Print(a, false), Print(b, false); (s != "") != Right(a, false) || s != "" && s2 != "" && (s == s2) != Same(a, b) {
			t.Errorf("%q, %q", s, s2)
		}
	})
}
