package read

import (
	"math"
	"slices"
	"strings"
	"testing"

	"gloss/api"
	"gloss/bset"
	"gloss/cmd"
)

// Makers.

const ops = "{}:=abcdDgGhHinNpPqstwxy"

func set(s string) api.Rx { return api.Rx{Kind: api.RSet, Set: bset.Of([]byte(s)...)} }

func row(kids ...api.Rx) api.Rx { return api.Rx{Kind: api.RCat, Kids: kids} }

func either(kids ...api.Rx) api.Rx { return api.Rx{Kind: api.RAlt, Kids: kids} }

func group(n int, kid api.Rx) api.Rx { return api.Rx{Kind: api.RGroup, N: n, Kids: []api.Rx{kid}} }

func star(kid api.Rx) api.Rx { return api.Rx{Kind: api.RRep, Max: -1, Kids: []api.Rx{kid}} }

func none() api.Addr { return api.Addr{} }

func line(n int) api.Addr { return api.Addr{Kind: api.ALine, Line: n} }

func last() api.Addr { return api.Addr{Kind: api.ALast} }

func match(r api.Rx) api.Addr { return api.Addr{Kind: api.AMatch, Rx: r} }

func lit(s string) api.Piece { return api.Piece{Group: -1, Lit: s} }

func ref(n int) api.Piece { return api.Piece{Group: n} }

func as(n int) string { return strings.Repeat("a", n) }

// base is the least right command of op.
func base(op byte) api.Cmd {
	c := api.Cmd{Op: op}
	switch op {
	case ':', 'w':
		c.Text = "x"
	case 's':
		c.Rx = set("a")
	}
	return c
}

func at(op byte, a, b api.Addr, not bool) api.Cmd {
	c := base(op)
	c.A, c.B, c.Not = a, b, not
	return c
}

func texted(op byte, s string) api.Cmd {
	c := base(op)
	c.Text = s
	return c
}

func put(r api.Rx, l ...api.Piece) api.Cmd { return api.Cmd{Op: 's', Rx: r, Tpl: l} }

func flagged(global, show bool, nth int, to string) api.Cmd {
	return api.Cmd{Op: 's', Rx: set("a"), Global: global, Show: show, Nth: nth, Text: to}
}

func swap(y, z string) api.Cmd { return api.Cmd{Op: 'y', Y: y, Z: z} }

func list(l ...api.Cmd) []api.Cmd { return l }

// opsOf are the least right commands of these ops.
func opsOf(s string) []api.Cmd {
	var l []api.Cmd
	for _, op := range []byte(s) {
		l = append(l, base(op))
	}
	return l
}

func times(n int, s string) string { return strings.Repeat(s, n) }

// wantRight asks whether l is right, basic and extended, and that what isn't right has no text.
func wantRight(t *testing.T, want bool, l []api.Cmd) {
	t.Helper()
	for _, ere := range []bool{false, true} {
		if Right(l, ere) != want {
			t.Errorf("%v: not %v: %+v", ere, want, l)
		}
		if s := Print(l, ere); (s != "") != (want && len(l) > 0) {
			t.Errorf("%v: %+v prints to %q", ere, l, s)
		}
	}
}

// P9.1

func TestRightOfEachOp(t *testing.T) {
	for _, op := range []byte(ops) {
		wantRight(t, op != '{' && op != '}', opsOf(string(op)))
		wantRight(t, true, opsOf("{"+strings.Trim(string(op), "{}")+"}"))
	}
	wantRight(t, true, opsOf(strings.Trim(ops, "{}")))
	wantRight(t, true, nil)
	wantRight(t, true, []api.Cmd{})
}

func TestRightAsksForRightCommands(t *testing.T) {
	for i, c := range []api.Cmd{{}, {Op: 'z'}, {Op: 's'}, {Op: ':'}, {Op: 'w'}, at('p', line(0), none(), false), at('p', line(10000), none(), false), at('p', none(), line(1), false), at('}', line(1), none(), false), at('}', none(), none(), true), at('{', none(), last(), false), at('q', line(1), line(2), false), texted('a', as(api.MaxText+1)), texted('p', "x"), texted('b', "a b"), put(row()), put(set("a"), ref(1)), flagged(false, false, 100, ""), swap("a", ""), swap("aa", "bc")} {
		if cmd.Right(c, false) || cmd.Right(c, true) {
			t.Fatal(i)
		}
		wantRight(t, false, list(c))
		wantRight(t, false, list(c, base('p')))
		wantRight(t, false, list(base('p'), base('p'), c))
		wantRight(t, false, list(base('{'), c, base('}')))
	}
	wantRight(t, false, list(base('{'), at('}', line(1), none(), false)))
	wantRight(t, false, list(at('{', line(0), none(), false), base('}')))
}

func TestRightOfBasicAndExtendedExpressions(t *testing.T) {
	for _, c := range []api.Cmd{put(either(set("a"), set("b"))), at('p', match(either(set("a"), set("b"))), none(), false), at('{', line(1), match(row(set("a"), api.Rx{Kind: api.RBegin})), true)} {
		l := list(base('p'), c)
		if c.Op == '{' {
			l = append(l, base('}'))
		}
		if Right(l, false) || !Right(l, true) || Print(l, false) != "" || Print(l, true) == "" {
			t.Errorf("%+v", l)
		}
	}
}

func TestRightOfHowManyCommands(t *testing.T) {
	for n := range 3 * api.MaxCmds {
		wantRight(t, n <= api.MaxCmds, opsOf(times(n, "p")))
		wantRight(t, n+2 <= api.MaxCmds, opsOf("{"+times(n, "p")+"}"))
	}
	wantRight(t, true, opsOf(times(20, "{}")))
	wantRight(t, false, opsOf(times(20, "{}")+"p"))
	wantRight(t, false, make([]api.Cmd, 1<<12))
	wantRight(t, false, slices.Repeat(opsOf("p"), 1<<12))
}

// closed tells of braces alone, as the chapter says it: each } has its { ahead, and the other way round, at most MaxDeep of them at once.
func closed(s string) bool {
	open := 0
	for i := range len(s) {
		ahead := s[:i+1]
		open = strings.Count(ahead, "{") - strings.Count(ahead, "}")
		if open < 0 || open > api.MaxDeep {
			return false
		}
	}
	return open == 0
}

// allTexts calls f with all texts of at most n of these bytes.
func allTexts(bytes string, n int, f func(s string)) {
	f("")
	if n == 0 {
		return
	}
	for i := range len(bytes) {
		allTexts(bytes, n-1, func(s string) { f(s + bytes[i:i+1]) })
	}
}

func TestBraces(t *testing.T) {
	for s, want := range map[string]bool{
		"{}": true, "{}{}": true, "{{}}": true, "{{}{}}": true, "{p}p{p}": true, "{": false, "}": false, "}{": false, "{}}": false, "{{}": false, "{p}}p{": false, "p{": false, "p}": false,
		times(6, "{") + times(6, "}"): true, times(7, "{") + times(7, "}"): false, times(6, "{") + "p" + times(6, "}") + times(6, "{") + times(6, "}"): true, "{" + times(9, "{}") + "}": true, times(5, "{") + "{}{}{}" + times(5, "}"): true, times(5, "{") + "{}{{}}" + times(5, "}"): false,
	} {
		if closed(s) != want {
			t.Error(s)
		}
		wantRight(t, want, opsOf(s))
	}
	allTexts("{}p", 8, func(s string) {
		if Right(opsOf(s), false) != closed(s) {
			t.Error(s)
		}
	})
	allTexts("{}", 8, func(s string) {
		s = "{{{{" + s + "}}}}"
		if Right(opsOf(s), true) != closed(s) {
			t.Error(s)
		}
	})
}

// some are commands, each unlike each other.
func some() []api.Cmd {
	l := opsOf(ops)
	for _, a := range []api.Addr{line(1), line(2), last(), match(set("a")), match(set("b"))} {
		l = append(l, at('p', a, none(), false), at('p', a, none(), true), at('p', a, line(2), false), at('p', line(1), a, true))
	}
	return append(l, texted('a', "x"), texted('a', "x\n"), texted('b', "x"), texted(':', "y"), put(set("b")), put(set("a"), ref(0)), put(set("a"), lit("&")), flagged(true, false, 0, ""), flagged(false, true, 0, ""), flagged(false, false, 1, ""), flagged(false, false, 0, "x"), swap("a", "b"), swap("b", "a"))
}

func TestSame(t *testing.T) {
	l := some()
	for _, a := range l {
		for _, b := range l {
			want := cmd.Same(a, b)
			if Same(list(a), list(b)) != want || Same(list(base('p'), a), list(base('p'), b)) != want || Same(list(a, a), list(a, b)) != want || Same(list(a, b), list(b, a)) != want {
				t.Errorf("%+v, %+v: not %v", a, b, want)
			}
		}
	}
	for n := range len(l) + 1 {
		for m := range len(l) + 1 {
			if Same(l[:n], l[:m]) != (n == m) {
				t.Error(n, m)
			}
		}
	}
}

func TestSameOfListsThatArentRight(t *testing.T) {
	if !Same(nil, nil) || !Same(nil, []api.Cmd{}) || !Same([]api.Cmd{}, nil) || Same(nil, make([]api.Cmd, 1)) || Same(make([]api.Cmd, 1), nil) || !Same(make([]api.Cmd, 3), make([]api.Cmd, 3)) {
		t.Error("empty")
	}
	many := slices.Repeat(opsOf("}"), 1000)
	if !Same(many, slices.Clone(many)) || Same(many, many[:999]) || Same(many, append(slices.Clone(many[:999]), base('{'))) {
		t.Error("many")
	}
	odd := api.Cmd{Op: 200, Nth: math.MinInt, Text: "\n", Y: "a"}
	if !Same(list(odd), list(odd)) || Same(list(odd), list(api.Cmd{Op: 200})) {
		t.Error("odd")
	}
	// Empty lists within a command, too.
	c := base('p')
	c.Tpl, c.Rx.Kids, c.A.Rx.Kids = []api.Piece{}, []api.Rx{}, make([]api.Rx, 0, 2)
	if !Same(list(c), opsOf("p")) || !Right(list(c), false) {
		t.Error("empty lists of a command")
	}
}

// P9.2

func wantText(t *testing.T, l []api.Cmd, want string) {
	t.Helper()
	for _, ere := range []bool{false, true} {
		if got := Print(l, ere); got != want {
			t.Errorf("%v: %q, not %q", ere, got, want)
		}
	}
}

func TestPrint(t *testing.T) {
	g := put(set("a"), lit("b"))
	g.Global = true
	wantText(t, list(at('{', line(1), line(3), false), base('p'), g, base('}')), "1,3{\np\ns/a/b/g\n}\n")
	wantText(t, nil, "")
	wantText(t, []api.Cmd{}, "")
	wantText(t, opsOf("p"), "p\n")
	wantText(t, opsOf("ppp"), "p\np\np\n")
	wantText(t, opsOf("{{}}"), "{\n{\n}\n}\n")
	wantText(t, list(texted('a', ""), texted('i', "x\ny\\"), at('q', last(), none(), true)), "a\\\n\ni\\\nx\\\ny\\\\\n$!q\n")
	wantText(t, list(texted(':', "x"), texted('b', "x"), base('t'), texted('w', "f"), swap("\n/", "ab")), ": x\nb x\nt\nw f\ny/\\n\\//ab/\n")
	for _, l := range [][]api.Cmd{opsOf("{"), opsOf("}"), opsOf("}{"), list(api.Cmd{}), list(base('p'), api.Cmd{Op: 'z'}), opsOf(times(41, "p")), opsOf(times(7, "{") + times(7, "}"))} {
		wantText(t, l, "")
	}
}

func TestPrintIsEachCommandAndALineEnd(t *testing.T) {
	var all string
	l := slices.DeleteFunc(some(), func(c api.Cmd) bool { return c.Op == '{' || c.Op == '}' })
	for i, c := range l {
		one := cmd.Print(c, false) + "\n"
		wantText(t, list(c), one)
		wantText(t, list(c, base('=')), one+"=\n")
		if i < api.MaxCmds {
			all += one
		}
	}
	wantText(t, l[:api.MaxCmds], all)
	wantText(t, l[:api.MaxCmds+1], "")
	// As expressions are written, so their commands are.
	plus := list(put(row(set("a"), set("+")), lit("b")))
	if Print(plus, false) != "s/a+/b/\n" || Print(plus, true) != "s/a\\+/b/\n" {
		t.Error(Print(plus, false), Print(plus, true))
	}
}

func TestPrintBeyondWhatMayBeParsed(t *testing.T) {
	// No limit is set to a text that is printed.
	l := slices.Repeat(list(texted('a', times(api.MaxText, "\n"))), api.MaxCmds)
	want := times(api.MaxCmds, "a\\\n"+times(api.MaxText, "\\\n")+"\n")
	wantText(t, l, want)
	if got, where, err := Parse(want, false); got != nil || where < 0 || where > len(want) || err != api.ErrBig {
		t.Error(len(got), where, err)
	}
}
