package cmd

import (
	"slices"
	"strconv"
	"strings"
	"testing"

	"gloss/api"
	"gloss/bset"
	"gloss/rx"
	"gloss/tpl"
)

// P8.3

// wantText asks what c's text is, basic and extended.
func wantText(t *testing.T, c api.Cmd, want string) {
	t.Helper()
	for _, ere := range []bool{false, true} {
		if got := Print(c, ere); got != want {
			t.Errorf("%v: %q, not %q", ere, got, want)
		}
	}
}

func TestPrintTheRunsOfTheChapter(t *testing.T) {
	c := put(set("a"), lit("b"))
	c.A, c.B, c.Not, c.Global, c.Show, c.Nth = line(1), match(set("x")), true, true, true, 2
	wantText(t, c, "1,/x/!s/a/b/gp2")
	wantText(t, texted('a', "x"), "a\\\nx")
}

func TestPrintOpsAlone(t *testing.T) {
	for _, op := range []byte("{}=dDgGhHnNpPqxbt") {
		wantText(t, base(op), string(rune(op)))
	}
	for _, op := range []byte(":wasicy") {
		want := map[byte]string{':': ": x", 'w': "w x", 's': "s/a//", 'a': "a\\\n", 'i': "i\\\n", 'c': "c\\\n", 'y': "y///"}
		wantText(t, base(op), want[op])
	}
}

func TestPrintWhereACommandIs(t *testing.T) {
	for _, q := range []struct {
		a, b api.Addr
		want string
	}{
		{none(), none(), ""}, {line(1), none(), "1"}, {line(9999), none(), "9999"}, {line(10), none(), "10"}, {last(), none(), "$"}, {match(set("x")), none(), "/x/"},
		{line(1), line(2), "1,2"}, {line(2), line(1), "2,1"}, {line(3), line(3), "3,3"}, {line(1), last(), "1,$"}, {last(), last(), "$,$"}, {match(set("/")), match(set("\n")), `/\//,/\n/`}, {last(), match(set("1")), "$,/1/"}, {match(set(",")), line(1234), "/,/,1234"},
	} {
		for _, op := range []byte("{=cdDgGhHnNpPqxbtwsyai") {
			tail := Print(base(op), false)
			if q.b.Kind != api.ANone && addrs(op) < 2 {
				continue
			}
			wantText(t, at(op, q.a, q.b, false), q.want+tail)
			wantText(t, at(op, q.a, q.b, true), q.want+"!"+tail)
		}
	}
}

func TestPrintLines(t *testing.T) {
	for s, want := range map[string]string{
		"": "", "a": "a", "\\": `\\`, "\n": "\\\n", "\n\n": "\\\n\\\n", "a\nb": "a\\\nb", "a\n": "a\\\n", "\\\n": "\\\\\\\n", "\\n": `\\n`, "a/b&c": "a/b&c", " a ;}": " a ;}", "\x00\xff\t": "\x00\xff\t", as(400): as(400),
	} {
		for _, op := range []byte("aic") {
			wantText(t, texted(op, s), string(rune(op))+"\\\n"+want)
		}
		wantText(t, with('c', func(c *api.Cmd) { c.A, c.B, c.Not, c.Text = line(2), last(), true, s }), "2,$!c\\\n"+want)
	}
	wantText(t, texted('a', strings.Repeat("\n", api.MaxText)), "a\\\n"+strings.Repeat("\\\n", api.MaxText))
}

func TestPrintNames(t *testing.T) {
	for _, op := range []byte("bt:w") {
		for _, s := range []string{"a", "Z", "0", "_", "Ab_9", "g", "w", as(api.MaxLabel)} {
			wantText(t, texted(op, s), string(rune(op))+" "+s)
		}
		for _, s := range []string{as(api.MaxLabel + 1), " ", "a b", "-"} {
			wantText(t, texted(op, s), "")
		}
	}
	wantText(t, with('b', func(c *api.Cmd) { c.A, c.Not, c.Text = last(), true, "end" }), "$!b end")
}

func TestPrintFlags(t *testing.T) {
	for i, q := range []struct {
		global, show bool
		nth          int
		to, want     string
	}{
		{false, false, 0, "", ""}, {true, false, 0, "", "g"}, {false, true, 0, "", "p"}, {true, true, 0, "", "gp"}, {false, false, 1, "", "1"}, {false, false, 99, "", "99"}, {true, false, 10, "", "g10"}, {false, true, 2, "", "p2"}, {true, true, 2, "", "gp2"},
		{false, false, 0, "f", "w f"}, {true, false, 0, "out_1", "gw out_1"}, {false, true, 0, "w", "pw w"}, {false, false, 7, "g", "7w g"}, {true, true, 42, as(8), "gp42w " + as(8)}, {false, false, 3, "4", "3w 4"},
	} {
		c := flagged(q.global, q.show, q.nth, q.to)
		wantText(t, c, "s/a//"+q.want)
		c.Tpl = []api.Piece{lit("&"), ref(0)}
		wantText(t, c, `s/a/\&&/`+q.want)
		c.A = line(1 + i)
		wantText(t, c, strconv.Itoa(1+i)+`s/a/\&&/`+q.want)
	}
}

func TestPrintSubstitutions(t *testing.T) {
	wantText(t, put(set("/"), lit("/")), `s/\//\//`)
	wantText(t, put(set("/a"), lit("a\nb\\c")), `s/[/a]/a\nb\\c/`)
	wantText(t, put(set("\n")), `s/\n//`)
	wantText(t, put(row(api.Rx{Kind: api.RBegin}, star(set("a")), api.Rx{Kind: api.REnd}), ref(0), ref(0)), `s/^a*$/&&/`)
	two := row(group(1, set("a")), group(2, set("+")))
	c := put(two, ref(2), lit("1"), ref(1))
	if got := Print(c, false); got != `s/\(a\)\(+\)/\21\1/` {
		t.Error(got)
	}
	if got := Print(c, true); got != `s/(a)(\+)/\21\1/` {
		t.Error(got)
	}
}

func TestPrintTables(t *testing.T) {
	wantText(t, swap("ab", "xy"), "y/ab/xy/")
	wantText(t, swap("a/\n\\", "1234"), `y/a\/\n\\/1234/`)
	wantText(t, swap("1234", "a/\n\\"), `y/1234/a\/\n\\/`)
	wantText(t, swap("n", "\n"), `y/n/\n/`)
	wantText(t, swap("\\n", "//"), `y/\\n/\/\//`)
	wantText(t, swap("&[", "]."), `y/&[/]./`)
	for c := range 256 {
		b := string([]byte{byte(c)})
		want := b
		switch b {
		case "/", "\\":
			want = "\\" + b
		case "\n":
			want = "\\n"
		}
		wantText(t, swap(b, "a"), "y/"+want+"/a/")
		wantText(t, swap("A", b), "y/A/"+want+"/")
	}
}

func TestAddr(t *testing.T) {
	for _, ere := range []bool{false, true} {
		for _, q := range []struct {
			a    api.Addr
			want string
		}{
			{none(), ""}, {line(1), "1"}, {line(10), "10"}, {line(9999), "9999"}, {last(), "$"}, {match(set("x")), "/x/"}, {match(set(".")), `/\./`}, {match(set("/")), `/\//`}, {match(api.Rx{Kind: api.RSet, Set: bset.Range(0, 255)}), "/./"}, {match(set("/a")), "/[/a]/"}, {match(api.Rx{Kind: api.REnd}), "/$/"},
			{line(0), ""}, {line(-1), ""}, {line(10000), ""}, {match(row()), ""}, {match(api.Rx{}), ""}, {api.Addr{Kind: 9}, ""}, {api.Addr{Kind: -1}, ""}, {api.Addr{Line: 1}, ""}, {api.Addr{Kind: api.ALast, Line: 1}, ""}, {api.Addr{Kind: api.ALine, Line: 1, Rx: set("a")}, ""}, {api.Addr{Kind: api.AMatch, Line: 1, Rx: set("a")}, ""},
		} {
			if got := Addr(q.a, ere); got != q.want {
				t.Errorf("%v %+v: %q, not %q", ere, q.a, got, q.want)
			}
		}
	}
	plus := row(set("a"), set("+"))
	if Addr(match(plus), false) != "/a+/" || Addr(match(plus), true) != `/a\+/` {
		t.Error("an expression is written as its kind is")
	}
	a := api.Rx{Kind: api.RRep, Min: 1, Max: -1, Kids: []api.Rx{set("a")}}
	if Addr(match(a), false) != `/a\{1,\}/` || Addr(match(a), true) != "/a+/" {
		t.Error("a repetition, too")
	}
}

// P8.4

// crossed are all of cs with each of the changes.
func crossed(cs []api.Cmd, changes ...func(c *api.Cmd)) []api.Cmd {
	var l []api.Cmd
	for _, c := range cs {
		for _, change := range changes {
			d := c
			change(&d)
			l = append(l, d)
		}
	}
	return l
}

func same(*api.Cmd) {}

// places are ways of standing somewhere.
func places() []func(c *api.Cmd) {
	l := []api.Addr{none(), line(1), line(2), line(12), last(), match(set("1")), match(set("/")), match(set(",")), match(set("!")), match(row(set("/"), set("1"))), match(set("$")), match(api.Rx{Kind: api.REnd})}
	var all []func(c *api.Cmd)
	for _, a := range l {
		for _, b := range l {
			for _, not := range []bool{false, true} {
				all = append(all, func(c *api.Cmd) { c.A, c.B, c.Not = a, b, not })
			}
		}
	}
	return all
}

// texts are texts that could be taken for something else, or for one another.
func texts() []func(c *api.Cmd) {
	var all []func(c *api.Cmd)
	for _, s := range []string{"", "a", "b", "w", "g", "p", "2", "w_a", "gw", " ", " a", "\n", "\\", "n", "\\n", "\\\n", "\n\\", "\\\\", "a\nb", "a\\\nb", "a\\nb", "/", "a/", "/w a"} {
		all = append(all, func(c *api.Cmd) { c.Text = s })
	}
	return all
}

func swaps() []func(c *api.Cmd) {
	var l []string
	for _, a := range []string{"", "/", "\\", "\n", "n", "a", "y"} {
		for _, b := range []string{"", "/", "\\", "\n", "n", "a", " "} {
			l = append(l, a+b)
		}
	}
	var all []func(c *api.Cmd)
	for _, y := range l {
		for _, z := range l {
			all = append(all, func(c *api.Cmd) { c.Y, c.Z = y, z })
		}
	}
	return all
}

func puts() []func(c *api.Cmd) {
	var all []func(c *api.Cmd)
	for _, r := range []api.Rx{set("a"), set("b"), set("/"), set("/a"), set("\\"), set("n"), set("\n"), star(set("a")), set("*"), row(set("a"), set("*")), group(1, set("a")), row(set("a"), set("/"), set("b")), either(set("a"), set("b")), row(set("a"), set("|"), set("b"))} {
		for _, l := range [][]api.Piece{nil, {ref(0)}, {lit("&")}, {lit("/")}, {lit("b")}, {lit("\n")}, {lit("n")}, {lit("\\n")}, {ref(1)}, {lit("1")}, {lit("\\1")}, {ref(1), lit("2")}, {lit("a/"), ref(0)}, {lit("b/g")}} {
			all = append(all, func(c *api.Cmd) { c.Rx, c.Tpl = r, l })
		}
	}
	return all
}

func flagRows() []func(c *api.Cmd) {
	var all []func(c *api.Cmd)
	for _, n := range []int{0, 1, 2, 12, 21, 99} {
		for i := range 4 {
			all = append(all, func(c *api.Cmd) { c.Global, c.Show, c.Nth = i&1 != 0, i&2 != 0, n })
		}
	}
	return all
}

// many are commands of all kinds: each Op in places and with texts, and what s and y have.
func many() []api.Cmd {
	var bases []api.Cmd
	for _, op := range []byte(ops) {
		bases = append(bases, base(op))
	}
	few := []func(c *api.Cmd){same, func(c *api.Cmd) { c.A, c.Not = line(1), true }, func(c *api.Cmd) { c.A, c.B = match(set("/")), line(2) }}
	l := crossed(bases, places()...)
	l = append(l, crossed(crossed(bases, few...), texts()...)...)
	s := crossed([]api.Cmd{base('s')}, puts()...)
	l = append(l, crossed(s, few[1:]...)...)
	l = append(l, crossed(crossed(s, flagRows()...), texts()...)...)
	return append(l, crossed(crossed([]api.Cmd{base('y')}, swaps()...), few...)...)
}

func TestTwoCommandsHaveOneTextJustIfTheyAreTheSame(t *testing.T) {
	for _, ere := range []bool{false, true} {
		said := map[string]api.Cmd{}
		for _, c := range many() {
			if !Right(c, ere) {
				if s := Print(c, ere); s != "" {
					t.Fatalf("%+v prints to %q", c, s)
				}
				continue
			}
			s := Print(c, ere)
			if other, there := said[s]; there && !Same(c, other) {
				t.Fatalf("%q is both %+v and %+v", s, c, other)
			}
			said[s] = c
			if again := Print(copyOf(c), ere); again != s {
				t.Fatalf("the same command is %q and %q", s, again)
			}
		}
		if len(said) < 10000 || said[""].Op != 0 {
			t.Error(ere, len(said))
		}
	}
}

// copyOf is c with lists of its own, which have room behind them.
func copyOf(c api.Cmd) api.Cmd {
	c.A.Rx, c.B.Rx, c.Rx = copyOfRx(c.A.Rx), copyOfRx(c.B.Rx), copyOfRx(c.Rx)
	c.Tpl = append(slices.Clone(c.Tpl), lit("spare"), ref(7))[:len(c.Tpl)]
	c.Text, c.Y, c.Z = strings.Clone(c.Text), strings.Clone(c.Y), strings.Clone(c.Z)
	return c
}

func copyOfRx(r api.Rx) api.Rx {
	kids := make([]api.Rx, 0, len(r.Kids)+2)
	for _, kid := range r.Kids {
		kids = append(kids, copyOfRx(kid))
	}
	r.Kids = append(kids, set("s"), row())[:len(r.Kids)]
	return r
}

// What stands between the slashes is read as what the command has.
func TestPartsOfATextAreRead(t *testing.T) {
	for _, ere := range []bool{false, true} {
		for _, c := range crossed([]api.Cmd{base('s')}, puts()...) {
			if !Right(c, ere) {
				continue
			}
			addr := Addr(match(c.Rx), ere)
			r, _, err := rx.Parse(addr[1:len(addr)-1], ere)
			if err != api.OK || !rx.Same(r, c.Rx) {
				t.Errorf("%q: %v", addr, r)
			}
			s := Print(c, ere)
			behind := strings.TrimPrefix(s, "s"+addr)
			l, _, err := tpl.Parse(strings.TrimSuffix(behind, "/"), rx.Groups(c.Rx))
			if err != api.OK || !slices.Equal(l, c.Tpl) {
				t.Errorf("%q: %v", s, l)
			}
		}
	}
}
