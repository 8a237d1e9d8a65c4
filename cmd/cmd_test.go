package cmd

import (
	"math"
	"slices"
	"strings"
	"testing"

	"gloss/api"
	"gloss/bset"
)

// Makers.

const ops = "{}:=abcdDgGhHinNpPqstwxy"

func set(s string) api.Rx { return api.Rx{Kind: api.RSet, Set: bset.Of([]byte(s)...)} }

func row(kids ...api.Rx) api.Rx { return api.Rx{Kind: api.RCat, Kids: kids} }

func either(kids ...api.Rx) api.Rx { return api.Rx{Kind: api.RAlt, Kids: kids} }

func group(n int, kid api.Rx) api.Rx { return api.Rx{Kind: api.RGroup, N: n, Kids: []api.Rx{kid}} }

func star(kid api.Rx) api.Rx { return api.Rx{Kind: api.RRep, Max: -1, Kids: []api.Rx{kid}} }

func none() api.Addr { return api.Addr{} }

func line(n int) api.Addr { return api.Addr{Kind: api.ALine, Line: n} }

func last() api.Addr { return api.Addr{Kind: api.ALast} }

func match(r api.Rx) api.Addr { return api.Addr{Kind: api.AMatch, Rx: r} }

func lit(s string) api.Piece { return api.Piece{Group: -1, Lit: s} }

func ref(n int) api.Piece { return api.Piece{Group: n} }

func as(n int) string { return strings.Repeat("a", n) }

// base is the least right command of op.
func base(op byte) api.Cmd {
	c := api.Cmd{Op: op}
	switch op {
	case ':', 'w':
		c.Text = "x"
	case 's':
		c.Rx = set("a")
	}
	return c
}

// with is the least right command of op with a change.
func with(op byte, change func(c *api.Cmd)) api.Cmd {
	c := base(op)
	change(&c)
	return c
}

func at(op byte, a, b api.Addr, not bool) api.Cmd {
	return with(op, func(c *api.Cmd) { c.A, c.B, c.Not = a, b, not })
}

func texted(op byte, s string) api.Cmd { return with(op, func(c *api.Cmd) { c.Text = s }) }

func put(r api.Rx, l ...api.Piece) api.Cmd { return api.Cmd{Op: 's', Rx: r, Tpl: l} }

func flagged(global, show bool, nth int, to string) api.Cmd {
	return api.Cmd{Op: 's', Rx: set("a"), Global: global, Show: show, Nth: nth, Text: to}
}

func swap(y, z string) api.Cmd { return api.Cmd{Op: 'y', Y: y, Z: z} }

// wantRight asks that these are right, or aren't, basic and extended, and that what isn't right has no text.
func wantRight(t *testing.T, want bool, cs ...api.Cmd) {
	t.Helper()
	for i, c := range cs {
		for _, ere := range []bool{false, true} {
			if Right(c, ere) != want {
				t.Errorf("%d: not %v: %q %+v", i, want, c.Op, c)
			}
			if (Print(c, ere) != "") != want {
				t.Errorf("%d: prints to %q: %q %+v", i, Print(c, ere), c.Op, c)
			}
		}
	}
}

// P8.1

func TestLabelBytes(t *testing.T) {
	for c := range 256 {
		b := string([]byte{byte(c)})
		want := strings.Contains("abcdefghijklmnopqrstuvwxyzABCDEFGHIJKLMNOPQRSTUVWXYZ0123456789_", b)
		for _, s := range []string{b, "a" + b, b + "a", "ab" + b + "cd", "abcdefg" + b} {
			if Label(s) != want {
				t.Errorf("%q: not %v", s, want)
			}
		}
	}
}

func TestLabelLengths(t *testing.T) {
	for n := range 3 * api.MaxLabel {
		if Label(as(n)) != (1 <= n && n <= api.MaxLabel) {
			t.Error(n)
		}
	}
	if Label("ab\xc3\xa4") || Label("a b") || Label(" a") || Label("a\n") || Label(as(1<<20)) {
		t.Error("none of these")
	}
}

// full has something in all that is in a command.
func full() api.Cmd {
	return api.Cmd{
		A: api.Addr{Kind: api.AMatch, Line: 2, Rx: row(set("a"), set("b"))}, B: api.Addr{Kind: api.ALine, Line: 3, Rx: set("c")}, Not: true, Op: 's', Text: "x",
		Rx: group(1, set("d")), Tpl: []api.Piece{lit("e"), ref(1)}, Global: true, Show: true, Nth: 4, Y: "f", Z: "g",
	}
}

// changes are commands that differ from full in one thing alone.
func changes() []api.Cmd {
	var l []api.Cmd
	for _, change := range []func(c *api.Cmd){
		func(c *api.Cmd) { c.A.Kind = api.ALine }, func(c *api.Cmd) { c.A.Line = 3 }, func(c *api.Cmd) { c.A.Rx = api.Rx{} }, func(c *api.Cmd) { c.A.Rx.Kids[1].Set = set("c").Set }, func(c *api.Cmd) { c.A.Rx.Kids = c.A.Rx.Kids[:1] }, func(c *api.Cmd) { c.A.Rx.Min = 1 },
		func(c *api.Cmd) { c.B.Kind = api.ALast }, func(c *api.Cmd) { c.B.Line = 4 }, func(c *api.Cmd) { c.B.Rx = set("d") }, func(c *api.Cmd) { c.B.Rx.Max = -1 },
		func(c *api.Cmd) { c.Not = false }, func(c *api.Cmd) { c.Op = 'S' }, func(c *api.Cmd) { c.Text = "" }, func(c *api.Cmd) { c.Text = "X" }, func(c *api.Cmd) { c.Text = "x " },
		func(c *api.Cmd) { c.Rx.N = 2 }, func(c *api.Cmd) { c.Rx.Kids[0].Kind = api.RBegin }, func(c *api.Cmd) { c.Rx = api.Rx{} },
		func(c *api.Cmd) { c.Tpl = nil }, func(c *api.Cmd) { c.Tpl[0].Lit = "E" }, func(c *api.Cmd) { c.Tpl[1].Group = 2 }, func(c *api.Cmd) { c.Tpl = c.Tpl[:1] }, func(c *api.Cmd) { c.Tpl = append(c.Tpl, ref(1)) }, func(c *api.Cmd) { slices.Reverse(c.Tpl) },
		func(c *api.Cmd) { c.Global = false }, func(c *api.Cmd) { c.Show = false }, func(c *api.Cmd) { c.Nth = 0 }, func(c *api.Cmd) { c.Nth = -4 }, func(c *api.Cmd) { c.Y = "g" }, func(c *api.Cmd) { c.Z = "" },
	} {
		c := full()
		change(&c)
		l = append(l, c)
	}
	return l
}

func TestSameOfCommandsThatDifferInOneThing(t *testing.T) {
	if !Same(full(), full()) {
		t.Error("full")
	}
	l := changes()
	for i, a := range l {
		if Same(a, full()) || Same(full(), a) {
			t.Error(i, a)
		}
		for j, b := range l {
			if Same(a, b) != (i == j) {
				t.Error(i, j)
			}
		}
	}
	// Those that stand at one address, or at the other; that have one text, or the other.
	for i, q := range [][2]api.Cmd{{at('p', line(1), none(), false), at('p', none(), line(1), false)}, {at('p', line(1), line(2), false), at('p', line(2), line(1), false)}, {swap("a", ""), swap("", "a")}, {flagged(true, false, 0, ""), flagged(false, true, 0, "")}, {base('p'), base('P')}, {base('{'), base('}')}} {
		if Same(q[0], q[1]) || !Same(q[0], q[0]) || !Same(q[1], q[1]) {
			t.Error(i)
		}
	}
}

func TestSameOfEmptyLists(t *testing.T) {
	a := api.Cmd{Op: 's', Rx: api.Rx{Kids: nil}, Tpl: nil, A: api.Addr{Rx: api.Rx{Kids: nil}}}
	b := api.Cmd{Op: 's', Rx: api.Rx{Kids: []api.Rx{}}, Tpl: []api.Piece{}, A: api.Addr{Rx: api.Rx{Kids: make([]api.Rx, 0, 3)}}}
	if !Same(a, b) || !Same(b, a) || !Same(api.Cmd{}, api.Cmd{}) {
		t.Error("nil and empty lists are the same")
	}
	for _, op := range []byte(ops) {
		c := base(op)
		c.A.Rx.Kids, c.B.Rx.Kids, c.Tpl = []api.Rx{}, []api.Rx{}, []api.Piece{}
		if c.Rx.Kids == nil {
			c.Rx.Kids = []api.Rx{}
		}
		wantRight(t, true, c)
		if !Same(c, base(op)) || Print(c, false) != Print(base(op), false) {
			t.Errorf("%q", op)
		}
	}
}

// addrs of a kind, right and not.

func wantAddr(t *testing.T, want bool, as ...api.Addr) {
	t.Helper()
	for _, a := range as {
		wantRight(t, want, at('p', a, none(), false), at('q', a, none(), true), at('{', line(1), a, false), at('s', last(), a, true))
		if text := Addr(a, false); a.Kind != api.ANone && (text != "") != want {
			t.Errorf("%+v: %q", a, text)
		}
	}
}

func TestAddressesOfLines(t *testing.T) {
	for _, n := range []int{1, 2, 9, 10, 9998, 9999} {
		wantRight(t, true, at('p', line(n), line(n), false), at('=', line(n), none(), true))
	}
	for _, n := range []int{0, -1, 10000, 10001, 99999, 1 << 32, 1<<32 + 1, math.MaxInt, math.MinInt} {
		wantAddr(t, false, line(n))
	}
}

func TestAddressesOfExpressions(t *testing.T) {
	for _, r := range []api.Rx{set("a"), set("/"), set("abc"), {Kind: api.RBegin}, {Kind: api.REnd}, group(1, row()), star(set("a")), row(set("a"), set("b")), row(slices.Repeat([]api.Rx{set("a")}, api.MaxRx-1)...)} {
		wantRight(t, true, at('p', match(r), none(), false), at('d', match(r), match(r), true))
	}
	// Wrong ones, and one that is right and prints to nothing.
	for _, r := range []api.Rx{{}, row(), {Kind: 9}, {Kind: -1}, {Kind: api.RSet}, {Kind: api.RSet, N: 1, Set: set("a").Set}, row(set("a")), either(set("a")), star(row()), star(star(set("a"))), group(2, set("a")), {Kind: api.RBack, N: 1}, row(slices.Repeat([]api.Rx{set("a")}, api.MaxRx)...)} {
		wantAddr(t, false, match(r))
	}
}

func TestAddressesThatAreRightInOneWay(t *testing.T) {
	for _, r := range []api.Rx{either(set("a"), set("b")), row(set("a"), api.Rx{Kind: api.RBegin}), either(row(), row())} {
		for _, c := range []api.Cmd{at('p', match(r), none(), false), at('p', line(1), match(r), false), put(r)} {
			if Right(c, false) || !Right(c, true) || Print(c, false) != "" || Print(c, true) == "" {
				t.Errorf("%+v", c)
			}
		}
		if Addr(match(r), false) != "" || Addr(match(r), true) == "" {
			t.Errorf("%+v", r)
		}
	}
}

func TestAddressesWithWhatTheirKindDoesntAsk(t *testing.T) {
	wantAddr(t, true, last(), line(1), match(set("a")))
	wantAddr(t, false,
		api.Addr{Kind: api.ALast, Line: 1}, api.Addr{Kind: api.ALast, Line: -1}, api.Addr{Kind: api.ALast, Rx: set("a")}, api.Addr{Kind: api.ALast, Rx: row()}, api.Addr{Kind: api.ALast, Rx: api.Rx{Kids: []api.Rx{{}}}},
		api.Addr{Kind: api.ALine, Line: 1, Rx: set("a")}, api.Addr{Kind: api.ALine, Line: 1, Rx: api.Rx{Max: -1}}, api.Addr{Kind: api.ALine, Line: 1, Rx: api.Rx{N: 1}},
		api.Addr{Kind: api.AMatch, Line: 1, Rx: set("a")}, api.Addr{Kind: api.AMatch, Line: -1, Rx: set("a")},
	)
	for _, a := range []api.Addr{{Line: 1}, {Line: -1}, {Rx: set("a")}, {Rx: api.Rx{Min: 1}}, {Rx: api.Rx{Set: set("\xff").Set}}, {Line: 1, Rx: set("a")}} {
		wantAddr(t, false, a)
		wantRight(t, false, at('p', none(), a, false), at('}', a, none(), false), at(':', none(), a, false), at('q', line(1), a, false))
	}
	for _, kind := range []int{-1, 4, 5, 1 << 32, 1<<32 + 1, math.MaxInt, math.MinInt} {
		wantAddr(t, false, api.Addr{Kind: kind}, api.Addr{Kind: kind, Line: 1}, api.Addr{Kind: kind, Rx: set("a")})
	}
}

// P8.2

func TestOpsThatThereAre(t *testing.T) {
	for op := range 256 {
		wantRight(t, strings.IndexByte(ops, byte(op)) >= 0, base(byte(op)))
	}
}

// asks tells of each Op which things it may have: the fields' letters of setters.
func asks(op byte) string {
	switch op {
	case '}':
		return ""
	case ':':
		return "t"
	case 'q', '=':
		return "an"
	case 'a', 'i':
		return "ant"
	case 'c', 'b', 't', 'w':
		return "abnt"
	case 's':
		return "abntrlgs#"
	case 'y':
		return "abny"
	}
	return "abn"
}

// setters set one thing each, to what is right where it is asked.
func setters() map[rune]func(c *api.Cmd) {
	return map[rune]func(c *api.Cmd){
		'a': func(c *api.Cmd) { c.A = line(7) },
		'b': func(c *api.Cmd) { c.A, c.B = line(1), last() },
		'n': func(c *api.Cmd) { c.Not = true },
		't': func(c *api.Cmd) { c.Text = "lab_1" },
		'r': func(c *api.Cmd) { c.Rx = set("xyz") },
		'l': func(c *api.Cmd) { c.Tpl = []api.Piece{lit("a"), ref(0)} },
		'g': func(c *api.Cmd) { c.Global = true },
		's': func(c *api.Cmd) { c.Show = true },
		'#': func(c *api.Cmd) { c.Nth = 1 },
		'y': func(c *api.Cmd) { c.Y, c.Z = "a", "b" },
	}
}

func TestWhatEachOpAsks(t *testing.T) {
	for _, op := range []byte(ops) {
		for name, change := range setters() {
			wantRight(t, strings.ContainsRune(asks(op), name), with(op, change))
		}
		// All that it asks at once.
		wantRight(t, true, with(op, func(c *api.Cmd) {
			for _, name := range asks(op) {
				setters()[name](c)
			}
		}))
		// Of these no Op has one alone.
		wantRight(t, false, with(op, func(c *api.Cmd) { c.Y = "a" }), with(op, func(c *api.Cmd) { c.Z = "a" }), with(op, func(c *api.Cmd) { c.Nth = -1 }), with(op, func(c *api.Cmd) { c.Tpl = []api.Piece{{Group: -1}} }), with(op, func(c *api.Cmd) { c.Rx = api.Rx{Max: -1} }))
	}
}

func TestTheSecondAddressNeedsTheFirst(t *testing.T) {
	for _, op := range []byte(ops) {
		for _, b := range []api.Addr{line(1), last(), match(set("a"))} {
			wantRight(t, false, at(op, none(), b, false), at(op, none(), b, true))
			wantRight(t, !strings.ContainsRune("}:qai=", rune(op)), at(op, last(), b, false), at(op, line(5), b, true))
			wantRight(t, !strings.ContainsRune("}:", rune(op)), at(op, b, none(), false), at(op, b, none(), true))
		}
	}
	// The second may be below the first.
	wantRight(t, true, at('p', line(9), line(1), false), at('p', last(), line(1), false))
}

func TestTextsOfLines(t *testing.T) {
	for _, op := range []byte("aic") {
		for _, s := range []string{"", "a", "\\", "\n", "a\nb\n", "\\\n", "a b;/}", "\x00\xff", as(api.MaxText - 1), as(api.MaxText), strings.Repeat("\n", api.MaxText)} {
			wantRight(t, true, texted(op, s))
		}
		for _, n := range []int{api.MaxText + 1, api.MaxText + 2, 1 << 16} {
			wantRight(t, false, texted(op, as(n)), texted(op, strings.Repeat("\\", n)))
		}
	}
}

func TestNamesOfLabelsAndStreams(t *testing.T) {
	for _, op := range []byte("bt:ws") {
		wantRight(t, op != ':' && op != 'w', texted(op, ""))
		wantRight(t, true, texted(op, "a"), texted(op, "_"), texted(op, "0"), texted(op, "Ab_9"), texted(op, as(api.MaxLabel)))
		wantRight(t, false, texted(op, as(api.MaxLabel+1)), texted(op, "a b"), texted(op, " "), texted(op, "a-"), texted(op, "a;"), texted(op, "a\n"), texted(op, "\xe4"), texted(op, as(api.MaxText)))
	}
}

func TestSubstitutions(t *testing.T) {
	one := group(1, set("b"))
	three := row(one, group(2, set("c")), group(3, set("d")))
	wantRight(t, true, put(set("a")), put(set("a"), ref(0)), put(set("a"), lit(as(api.MaxText))), put(one, ref(1)), put(three, ref(3), ref(2), lit("a"), ref(1), lit("b")), put(star(set("a"))), put(api.Rx{Kind: api.REnd}, lit("a")))
	wantRight(t, false,
		put(api.Rx{}), put(row()), put(row(), lit("a")), put(row(set("a"))), put(star(row())), put(group(2, set("a"))), put(api.Rx{Kind: 77}),
		put(set("a"), ref(1)), put(one, ref(2)), put(three, ref(4)), put(three, ref(-2)), put(set("a"), lit("")), put(set("a"), lit("a"), lit("b")), put(set("a"), lit(as(api.MaxText+1))), put(one, api.Piece{Group: 1, Lit: "a"}),
	)
	for n := -3; n < 200; n++ {
		wantRight(t, 0 <= n && n <= 99, flagged(false, false, n, ""), flagged(true, true, n, "out"))
	}
	wantRight(t, false, flagged(true, true, 1<<32, ""), flagged(true, true, math.MaxInt, ""), flagged(true, true, math.MinInt, ""))
}

// allBytes are all bytes, once each.
func allBytes() string {
	var l []byte
	for b := range 256 {
		l = append(l, byte(b))
	}
	return string(l)
}

func TestTables(t *testing.T) {
	wantRight(t, true, swap("", ""), swap("a", "a"), swap("a", "b"), swap("ab", "ba"), swap("abc", "xxx"), swap("/\\\n", "\n/\\"), swap(allBytes(), allBytes()), swap(allBytes(), as(256)), swap("\xc3\xa4", "ab"))
	wantRight(t, false,
		swap("a", ""), swap("", "a"), swap("ab", "c"), swap("a", "bc"), swap("aa", "bc"), swap("aa", "bb"), swap("aba", "xyz"), swap("abcb", "wxyz"), swap("\n\n", "ab"), swap("\xc3\xa4\xc3", "abc"),
		swap(allBytes()+"a", allBytes()+"b"), swap(as(api.MaxText), as(api.MaxText)), swap(as(api.MaxText+1), as(api.MaxText+1)), swap(allBytes(), as(255)), swap(as(1<<20), as(1<<20)),
	)
	for i := range 256 {
		s := allBytes()
		wantRight(t, i == 0, swap(s+s[:i], s+s[:i]))
	}
}
