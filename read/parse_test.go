package read

import (
	"slices"
	"strconv"
	"strings"
	"testing"

	"gloss/api"
	"gloss/bset"
)

// P9.3

// wantRead asks as what s is read, basic and extended.
func wantRead(t *testing.T, s string, want ...api.Cmd) {
	t.Helper()
	for _, ere := range []bool{false, true} {
		wantReadAs(t, s, ere, want...)
	}
}

func wantReadAs(t *testing.T, s string, ere bool, want ...api.Cmd) {
	t.Helper()
	got, where, err := Parse(s, ere)
	if err != api.OK || where != 0 || !Same(got, want) || !Right(got, ere) {
		t.Errorf("%q, %v: %+v, %d, %d; not %+v", s, ere, got, where, err, want)
	}
}

// wantFaults asks with which error each is refused, basic and extended.
func wantFaults(t *testing.T, want api.Errno, all ...string) {
	t.Helper()
	for _, s := range all {
		for _, ere := range []bool{false, true} {
			wantFaultAs(t, s, ere, want)
		}
	}
}

func wantFaultAs(t *testing.T, s string, ere bool, want api.Errno) {
	t.Helper()
	got, where, err := Parse(s, ere)
	if got != nil || where < 0 || where > len(s) || err != want {
		t.Errorf("%q, %v: %+v, %d, %d; not %d", s, ere, got, where, err, want)
	}
}

func TestParseTheRunsOfTheChapter(t *testing.T) {
	g := put(set("a"), lit("b"))
	g.Global = true
	wantRead(t, "1,3{p;s/a/b/g}", at('{', line(1), line(3), false), base('p'), g, base('}'))
	wantFaults(t, api.ErrForm, "p p")
	wantRead(t, "a\\\nx\\\ny", texted('a', "x\ny"))
}

func TestParseScriptsWithoutCommands(t *testing.T) {
	allTexts(" \t\n;", 4, func(s string) { wantRead(t, s) })
	got, where, err := Parse("", true)
	if len(got) != 0 || where != 0 || err != api.OK {
		t.Error(got, where, err)
	}
	// Other bytes that show nothing are none of these.
	wantFaults(t, api.ErrForm, "\r", "\v", "\f", "\x00", "\xa0", " \r\n", "p\r\n", "#", "# p", "p#", "#n\n")
}

func TestParseWhatStandsBetweenCommands(t *testing.T) {
	p := base('p')
	allTexts(" \t\n;", 3, func(s string) {
		wantRead(t, s+"p", p)
		wantRead(t, "p"+s, p)
		wantRead(t, "1{"+s+"p}"+s, at('{', line(1), none(), false), p, base('}'))
		wantRead(t, "{p"+s+"}", base('{'), p, base('}'))
		if strings.ContainsAny(s, "\n;") {
			wantRead(t, "p"+s+"p", p, p)
			wantRead(t, "{}"+s+"p", base('{'), base('}'), p)
		} else {
			wantFaults(t, api.ErrForm, "p"+s+"p", "{}"+s+"p", "{p}"+s+"{p}")
		}
		// Only blanks stand within one.
		if strings.ContainsAny(s, "\n;") {
			wantFaults(t, api.ErrForm, "1"+s+"p", "1!"+s+"p", "1,"+s+"2p", "1,2"+s+"p", ":"+s+"x", "w"+s+"x", "s/a/b/w"+s+"x", "$"+s)
		} else {
			for _, text := range []string{"1" + s + "p", "1" + s + "!" + s + "p"} {
				wantRead(t, text, at('p', line(1), none(), strings.Contains(text, "!")))
			}
			wantRead(t, "1,"+s+"2"+s+"!"+s+"p"+s, at('p', line(1), line(2), true))
		}
	})
}

func TestParseWhatNoneMayStandBehind(t *testing.T) {
	g := put(set("a"), lit("b"))
	for _, q := range []struct {
		s string
		c api.Cmd
	}{
		{"=", base('=')}, {"d", base('d')}, {"D", base('D')}, {"g", base('g')}, {"G", base('G')}, {"h", base('h')}, {"H", base('H')}, {"n", base('n')}, {"N", base('N')}, {"p", base('p')}, {"P", base('P')}, {"q", base('q')}, {"x", base('x')},
		{"b", base('b')}, {"b x", texted('b', "x")}, {"t", base('t')}, {"tx", texted('t', "x")}, {":x", base(':')}, {"w x", base('w')}, {"s/a/b/", g}, {"s/a//g", flagged(true, false, 0, "")}, {"s/a//12", flagged(false, false, 12, "")}, {"s/a//w x", flagged(false, false, 0, "x")}, {"y/a/b/", swap("a", "b")},
	} {
		for _, gap := range []string{"", " ", "\t \t"} {
			wantRead(t, q.s+gap, q.c)
			wantRead(t, q.s+gap+"\n", q.c)
			wantRead(t, q.s+gap+";", q.c)
			wantRead(t, q.s+gap+";p", q.c, base('p'))
			wantRead(t, q.s+gap+"\np", q.c, base('p'))
			wantRead(t, "{"+q.s+gap+"}", base('{'), q.c, base('}'))
			wantRead(t, "{"+q.s+gap+"};p", base('{'), q.c, base('}'), base('p'))
			wantFaults(t, api.ErrForm, q.s+gap+"}", q.s+gap+"{}", q.s+gap+"{", q.s+gap+"$p", q.s+gap+"!", q.s+gap+"/a/p", q.s+gap+"\\", q.s+gap+",", q.s+gap+"\x00", q.s+gap+"\r", q.s+gap+":x", q.s+gap+"=", q.s+gap+"#")
		}
		wantFaults(t, api.ErrForm, q.s+" - ", q.s+"\td x", q.s+" x 1", q.s+" w f g")
	}
	wantFaults(t, api.ErrForm, "{}p", "{}{}", "{} p", "{}1p", "{p}!p", "{}x}", "{};}")
	wantRead(t, "{}", opsOf("{}")...)
	wantRead(t, "{{}}", opsOf("{{}}")...)
	wantRead(t, "{{} } ;", opsOf("{{}}")...)
	wantRead(t, "{1p;{$!p}}", base('{'), at('p', line(1), none(), false), base('{'), at('p', last(), none(), true), base('}'), base('}'))
}

func TestParseWhatStandsRightBehindABrace(t *testing.T) {
	for op, s := range map[byte]string{'p': "p", '{': "{}", ':': ":x", '=': "=", 's': "s/a//", 'y': "y///", 'w': "wx"} {
		l := list(base('{'), base(op))
		if op == '{' {
			l = append(l, base('}'))
		}
		wantRead(t, "{"+s+"}", append(l, base('}'))...)
	}
	wantRead(t, "{1p}", base('{'), at('p', line(1), none(), false), base('}'))
	wantRead(t, "{/a/p}", base('{'), at('p', match(set("a")), none(), false), base('}'))
	wantRead(t, "{!p}", base('{'), at('p', none(), none(), true), base('}'))
	wantRead(t, "{$!{p}}", base('{'), at('{', last(), none(), true), base('p'), base('}'), base('}'))
	wantRead(t, "{a\\\nx}\n}", base('{'), texted('a', "x}"), base('}'))
	wantFaults(t, api.ErrForm, "{a\\\nx}", "{,p}", "{-}", "{1}", "{1,}", "{1,2}", "{!}", "{! }", "{1,2!}")
}

func TestParseOps(t *testing.T) {
	tails := map[byte]string{'{': "}", ':': "x", 'w': "x", 's': "/a//", 'a': "\\\n", 'i': "\\\n", 'c': "\\\n", 'y': "///"}
	for b := range 256 {
		op := byte(b)
		s := string([]byte{op})
		switch {
		case strings.IndexByte(" \t\n;!$,/0123456789", op) >= 0:
			// These begin something, or are nothing.
			continue
		case strings.IndexByte(ops, op) < 0:
			wantFaults(t, api.ErrForm, s, "1"+s, "1,2"+s, "!"+s, "/a/"+s, s+"\n", s+";p", s+"-", s+"\\\nx", "p;"+s, "{"+s)
		case op == '}':
			wantFaults(t, api.ErrForm, s, "1"+s, "{1"+s, "{!"+s, "{1!"+s, "{$,$"+s, "{/a/"+s)
		default:
			l := list(base(op))
			if op == '{' {
				l = append(l, base('}'))
			}
			wantRead(t, s+tails[op], l...)
		}
	}
}

func TestParseHowManyAddresses(t *testing.T) {
	tails := map[byte]string{'{': "}", 'w': "x", 's': "/a//", 'a': "\\\n", 'i': "\\\n", 'c': "\\\n", 'y': "///", ':': "x"}
	for _, op := range []byte(ops) {
		s := string([]byte{op}) + tails[op]
		rest := opsOf("}")
		if op != '{' {
			rest = nil
		}
		for _, not := range []string{"", "!"} {
			for _, q := range []struct {
				s    string
				a, b api.Addr
			}{{"1", line(1), none()}, {"$", last(), none()}, {"/a/", match(set("a")), none()}, {"1,2", line(1), line(2)}, {"$,$", last(), last()}, {"/a/,/b/", match(set("a")), match(set("b"))}, {"2,1", line(2), line(1)}, {"1,/a/", line(1), match(set("a"))}, {"/a/,$", match(set("a")), last()}} {
				two := strings.Contains(q.s, ",")
				if strings.IndexByte("}:", op) >= 0 || two && strings.IndexByte("qai=", op) >= 0 {
					wantFaults(t, api.ErrForm, q.s+not+s, "{"+q.s+not+s)
				} else {
					wantRead(t, q.s+not+s, append(list(at(op, q.a, q.b, not != "")), rest...)...)
				}
			}
		}
		if strings.IndexByte("}:", op) < 0 {
			wantRead(t, "!"+s, append(list(at(op, none(), none(), true)), rest...)...)
		} else {
			wantFaults(t, api.ErrForm, "!"+s, "{!"+s)
		}
		wantFaults(t, api.ErrForm, ","+s, ",1"+s, "1,"+s, "1,,2"+s, "1,2,3"+s, "1 ,2"+s, "1\t,2"+s, "1,\n2"+s, "1;2"+s, "1 2"+s, "!!"+s, "! !"+s, "1!2"+s, "!1"+s, "$$"+s, "$1"+s, "1$"+s, "/a/1"+s, "1/a/"+s, "+1"+s, "-1"+s, "1-2"+s, "1,+2"+s, "1~2"+s)
	}
	wantFaults(t, api.ErrForm, "1", "$", "/a/", "1,", "1,2", "!", "1!", "1,2!", "1 ", "1,2 ! ", "1\np", "1,2;p")
}

func TestParseLineNumbers(t *testing.T) {
	for _, n := range []int{1, 2, 9, 10, 99, 100, 1000, 1234, 9998, 9999} {
		s := strconv.Itoa(n)
		for _, noughts := range []string{"", "0", "00", "000", times(300, "0")} {
			wantRead(t, noughts+s+"p", at('p', line(n), none(), false))
			wantRead(t, "1,"+noughts+s+"p", at('p', line(1), line(n), false))
			wantRead(t, noughts+s+", "+noughts+s+"!p", at('p', line(n), line(n), true))
		}
	}
	for _, s := range []string{"0", "00", times(300, "0"), "10000", "10001", "99999", "010000", "4294967297", "18446744073709551617", "9223372036854775808", "1" + times(400, "0")} {
		wantFaults(t, api.ErrForm, s+"p", "1,"+s+"p", "$,"+s+"p", s+",1p", s+"{}", s)
	}
	wantFaults(t, api.ErrForm, "1a2p", "0x1p", "1.0p", "1_0p", "-0p", "\xb2p")
}

func TestParseExpressionsUpToTheirSlash(t *testing.T) {
	class, _ := bset.Class("digit")
	digits := api.Rx{Kind: api.RSet, Set: class}
	with := func(s api.Set, bytes string) api.Rx {
		return api.Rx{Kind: api.RSet, Set: bset.Join(s, bset.Of([]byte(bytes)...))}
	}
	without := func(bytes string) api.Rx {
		return api.Rx{Kind: api.RSet, Set: bset.Not(bset.Of([]byte(bytes)...))}
	}
	for _, q := range []struct {
		s string
		r api.Rx
	}{
		{"a", set("a")}, {"ab", row(set("a"), set("b"))}, {"\\/", set("/")}, {"a\\/b", row(set("a"), set("/"), set("b"))}, {"\\/\\/", row(set("/"), set("/"))}, {"\\\\", set("\\")}, {"\\\\\\/", row(set("\\"), set("/"))}, {"a\\\\", row(set("a"), set("\\"))}, {"\\n", set("\n")}, {"\n", set("\n")}, {" ", set(" ")}, {";", set(";")}, {"}", set("}")}, {"a;p", row(set("a"), set(";"), set("p"))}, {"\x00", set("\x00")}, {"\xff", set("\xff")},
		{"[/]", set("/")}, {"[a/b]", set("/ab")}, {"[^/]", without("/")}, {"[]/]", set("]/")}, {"[^]/]", without("]/")}, {"[\\/]", set("\\/")}, {"[/\\]", set("\\/")}, {"[\\]", set("\\")}, {"[\\\\]", set("\\")}, {"[[/]", set("[/")}, {"[/[]", set("[/")}, {"[[]", set("[")}, {"[.-/]", set("./")}, {"[/-1]", set("/01")}, {"[/-]", set("/-")}, {"[-/]", set("/-")}, {"[--/]", set("-./")}, {"[[./]", set("[./")}, {"[[=/]", set("[=/")}, {"[a[.]", set("a[.")}, {"[^^/]", without("^/")}, {"[/^]", set("^/")}, {"[\n/]", set("\n/")},
		{"[[:digit:]/]", with(class, "/")}, {"[/[:digit:]]", with(class, "/")}, {"[[:digit:]]", digits}, {"[][:digit:]/]", with(class, "/]")}, {"[^[:digit:]/]", api.Rx{Kind: api.RSet, Set: bset.Not(with(class, "/").Set)}}, {"[[:digit:][:digit:]/]", with(class, "/")}, {"[[:digit:]:]", with(class, ":")}, {"[:digit:]", set(":digt")}, {"[:/]", set(":/")}, {"[/:]", set(":/")},
		{"\\[", set("[")}, {"\\[a", row(set("["), set("a"))}, {"\\[\\]", row(set("["), set("]"))}, {"\\\\[/]", row(set("\\"), set("/"))}, {"\\\\\\[", row(set("\\"), set("["))}, {"[/]a[/]", row(set("/"), set("a"), set("/"))}, {"[a]\\/[b]", row(set("a"), set("/"), set("b"))}, {"]", set("]")}, {"a]", row(set("a"), set("]"))}, {"[/]]", row(set("/"), set("]"))}, {"[]/]]", row(set("]/"), set("]"))}, {"[\\]]", row(set("\\"), set("]"))},
	} {
		wantRead(t, "/"+q.s+"/p", at('p', match(q.r), none(), false))
		wantRead(t, "/"+q.s+"/,/"+q.s+"/!p", at('p', match(q.r), match(q.r), true))
		wantRead(t, "1, /"+q.s+"/ p;p", at('p', line(1), match(q.r), false), base('p'))
		wantRead(t, "s/"+q.s+"/b/", put(q.r, lit("b")))
		wantRead(t, "/"+q.s+"/s/"+q.s+"//;/b/p", api.Cmd{Op: 's', A: match(q.r), Rx: q.r}, at('p', match(set("b")), none(), false))
		// Without its slash it isn't, and the next one isn't its.
		wantFaults(t, api.ErrForm, "/"+q.s, "/"+q.s+"p", "1,/"+q.s, "s/"+q.s, "s/"+q.s+"/b", "/"+q.s+"\\/p", "/"+q.s+"//p", "/"+q.s+"/", "s/"+q.s+"//b/")
	}
}

func TestParseBasicAndExtendedExpressions(t *testing.T) {
	wantReadAs(t, "/a|b/p", true, at('p', match(either(set("a"), set("b"))), none(), false))
	wantReadAs(t, "/a|b/p", false, at('p', match(row(set("a"), set("|"), set("b"))), none(), false))
	wantReadAs(t, "s/(a)/\\1/", true, put(group(1, set("a")), ref(1)))
	wantReadAs(t, "s/\\(a\\)/\\1/", false, put(group(1, set("a")), ref(1)))
	wantReadAs(t, "s/\\(a\\)\\/\\(b\\)/\\2\\/\\1/", false, put(row(group(1, set("a")), set("/"), group(2, set("b"))), ref(2), lit("/"), ref(1)))
	wantReadAs(t, "/(/p", false, at('p', match(set("(")), none(), false))
	wantFaultAs(t, "/(/p", true, api.ErrForm)
	wantFaultAs(t, "/\\(/p", false, api.ErrForm)
	wantReadAs(t, "/*/p", false, at('p', match(set("*")), none(), false))
	wantFaultAs(t, "/*/p", true, api.ErrForm)
	wantReadAs(t, "/|/p", true, at('p', match(either(row(), row())), none(), false))
	wantReadAs(t, "/()/p", true, at('p', match(group(1, row())), none(), false))
	wantFaultAs(t, "s/(a)/\\1/", false, api.ErrForm)
	wantFaultAs(t, "s/(a)/\\2/", true, api.ErrForm)
}

func TestParseWrongExpressions(t *testing.T) {
	for _, s := range []string{"", "a**", "\\(a", "a\\)", "\\", "[", "[a", "[]", "[^]", "[/", "[]/", "[^]/", "[[:digit:]", "[[:digit:/]", "[[:no:]/]", "[[:/]", "[[::]]", "[b-a]", "\\1", "\\a", "a\\{2", "a\\{2,1\\}", "a\\{21\\}", "[[:digit:", "[a-[:digit:]/]"} {
		wantFaultAs(t, "/"+s+"/p", false, api.ErrForm)
		wantFaultAs(t, "1,/"+s+"/p", false, api.ErrForm)
		wantFaultAs(t, "/a/,/"+s+"/p", false, api.ErrForm)
		wantFaultAs(t, "s/"+s+"/b/", false, api.ErrForm)
		wantFaultAs(t, "p;/"+s+"/p;p", false, api.ErrForm)
	}
	for _, s := range []string{"", "a**", "(a", "a)", "*a", "a|*", "a{2", "a{2,1}", "a{21}", "{", "\\<", "(*)", "^*"} {
		wantFaultAs(t, "/"+s+"/p", true, api.ErrForm)
		wantFaultAs(t, "s/"+s+"/b/", true, api.ErrForm)
	}
	// Too big is told as wrong, too deep is told so.
	wantRead(t, "/"+as(api.MaxRx-1)+"/p", at('p', match(row(slices.Repeat([]api.Rx{set("a")}, api.MaxRx-1)...)), none(), false))
	wantFaults(t, api.ErrForm, "/"+as(api.MaxRx)+"/p", "/"+as(api.MaxRx+1)+"/p", "s/"+as(api.MaxRx)+"/b/", "1,/"+as(1000)+"/p")
	wantFaultAs(t, "/"+times(4, "\\(a\\)")+"/p", false, api.ErrForm)
	wantFaultAs(t, "s/"+times(4, "(a)")+"/b/", true, api.ErrForm)
}

func nest(n int, ere bool) string {
	if ere {
		return times(n, "(") + "a" + times(n, ")")
	}
	return times(n, "\\(") + "a" + times(n, "\\)")
}

func TestParseDeepExpressions(t *testing.T) {
	for _, ere := range []bool{false, true} {
		three := group(1, group(2, group(3, set("a"))))
		wantReadAs(t, "/"+nest(3, ere)+"/p", ere, at('p', match(three), none(), false))
		for n := 4; n <= api.MaxDeep; n++ {
			wantFaultAs(t, "/"+nest(n, ere)+"/p", ere, api.ErrForm)
			wantFaultAs(t, "s/"+nest(n, ere)+"/b/", ere, api.ErrForm)
		}
		for _, n := range []int{api.MaxDeep + 1, api.MaxDeep + 2, 100, 900} {
			s := "/" + nest(n, ere) + "/"
			for _, text := range []string{s + "p", "1," + s + "p", "/a/," + s + "p", "s" + s + "b/", "{p;" + s, s + "z", "p\n" + s + "p;z", "s" + s, "s" + s + "\n/"} {
				wantFaultAs(t, text, ere, api.ErrDeep)
			}
			// What is wrong ahead of it is told first; and it isn't one without the slash behind it.
			wantFaultAs(t, "z;"+s+"p", ere, api.ErrForm)
			wantFaultAs(t, "0,"+s+"p", ere, api.ErrForm)
			wantFaultAs(t, "//,"+s+"p", ere, api.ErrForm)
			wantFaultAs(t, "p p;"+s+"p", ere, api.ErrForm)
			wantFaultAs(t, times(api.MaxCmds, "p;")+s+"p", ere, api.ErrBig)
			wantFaultAs(t, s[:len(s)-1], ere, api.ErrForm)
			wantFaultAs(t, s+"p"+times(api.MaxScript, " "), ere, api.ErrBig)
		}
	}
}

func TestParseLines(t *testing.T) {
	for _, op := range []byte("aic") {
		o := string([]byte{op})
		for text, want := range map[string]string{
			"": "", "x": "x", "x y": "x y", " x": " x", "x ": "x ", "p;p": "p;p", "}": "}", "\\\n": "\n", "\\\\": "\\", "\\a": "a", "\\n": "n", "\\\\n": "\\n", "\\;": ";", "x\\\ny": "x\ny", "x\\\n": "x\n", "\\\n\\\n": "\n\n", "\\\\\\\n": "\\\n", "\\\\\\\\": "\\\\", "a/b": "a/b", "\x00\xff": "\x00\xff", "\\\x00": "\x00", "\\ x": " x", as(api.MaxText): as(api.MaxText), times(api.MaxText, "\\\\"): times(api.MaxText, "\\"),
		} {
			c := texted(op, want)
			wantRead(t, o+"\\\n"+text, c)
			wantRead(t, o+"\\\n"+text+"\n", c)
			wantRead(t, o+"\\\n"+text+"\np", c, base('p'))
			wantRead(t, o+"\\\n"+text+"\n \n;p", c, base('p'))
			wantRead(t, o+"\\\n"+text+"\n"+o+"\\\n"+text, c, c)
			wantRead(t, "{"+o+"\\\n"+text+"\n}", base('{'), c, base('}'))
			// A \ that has no byte behind it.
			wantFaults(t, api.ErrForm, o+"\\\n"+text+"\\", "p;"+o+"\\\n"+text+"\\", "{"+o+"\\\n"+text+"}")
		}
		wantFaults(t, api.ErrForm, o, o+"\n", o+"\\", o+"\\x", o+"\\\\\n", o+" \\\nx", o+"\\ \nx", o+"\\\r\nx", o+"x", o+" x", o+"\nx", o+";", o+"}", "{"+o+"}", o+"\\\n\\", o+"\\\nx\\", o+"\\\nx\\\\\\")
		wantFaults(t, api.ErrForm, o+"\\\n"+as(api.MaxText+1), o+"\\\n"+as(api.MaxText+1)+"\np", o+"\\\n"+times(api.MaxText+1, "\\\n"))
		// What ends at a \ that stands for itself.
		wantRead(t, o+"\\\nx\\\\\np", texted(op, "x\\"), base('p'))
		wantRead(t, o+"\\\nx\\\\\\\np", texted(op, "x\\\np"))
		wantRead(t, "1!"+o+"\\\nx", api.Cmd{Op: op, A: line(1), Not: true, Text: "x"})
	}
	wantRead(t, "2,3c\\\nx", api.Cmd{Op: 'c', A: line(2), B: line(3), Text: "x"})
}

func TestParseLabels(t *testing.T) {
	for _, op := range []byte("bt:w") {
		o := string([]byte{op})
		for _, s := range []string{"a", "Z", "0", "_", "b", "p", "ab", "Ab_9", "99", as(api.MaxLabel - 1), as(api.MaxLabel)} {
			c := texted(op, s)
			for _, gap := range []string{"", " ", "\t", "  \t "} {
				wantRead(t, o+gap+s, c)
				wantRead(t, o+gap+s+gap+";p", c, base('p'))
				wantRead(t, o+gap+s+"\n"+o+gap+s, c, c)
				wantRead(t, "{"+o+gap+s+"}", base('{'), c, base('}'))
				wantFaults(t, api.ErrForm, o+gap+s+" x", o+gap+s+"-", o+gap+s+"\xe4", o+gap+s+",", o+gap+s+"{", o+gap+s+"/")
			}
		}
		wantFaults(t, api.ErrForm, o+as(api.MaxLabel+1), o+" "+as(api.MaxLabel+1), o+as(api.MaxLabel+1)+";p", o+as(2000), o+" -", o+"-", o+" \xc3\xa4", o+"!", o+"\\\nx", o+" /")
		for _, s := range []string{o, o + " ", o + "\n", o + ";", o + " ;", o + "\t\n"} {
			if op == 'b' || op == 't' {
				wantRead(t, s, base(op))
				wantRead(t, "{"+s+"}", base('{'), base(op), base('}'))
			} else {
				wantFaults(t, api.ErrForm, s, "{"+s+"}", s+"!p;", s+";p")
			}
		}
	}
	for b := range 256 {
		s := string([]byte{byte(b)})
		if strings.Contains("abcdefghijklmnopqrstuvwxyzABCDEFGHIJKLMNOPQRSTUVWXYZ0123456789_", s) {
			wantRead(t, "b x"+s, texted('b', "x"+s))
		} else if !strings.Contains(" \t\n;", s) {
			wantFaults(t, api.ErrForm, "b x"+s, "w "+s)
		}
	}
}

func TestParseFlags(t *testing.T) {
	for _, q := range []struct {
		s string
		c api.Cmd
	}{
		{"", flagged(false, false, 0, "")}, {"g", flagged(true, false, 0, "")}, {"p", flagged(false, true, 0, "")}, {"gp", flagged(true, true, 0, "")}, {"pg", flagged(true, true, 0, "")}, {"1", flagged(false, false, 1, "")}, {"9", flagged(false, false, 9, "")}, {"10", flagged(false, false, 10, "")}, {"98", flagged(false, false, 98, "")}, {"99", flagged(false, false, 99, "")}, {"01", flagged(false, false, 1, "")}, {"0099", flagged(false, false, 99, "")},
		{"gp2", flagged(true, true, 2, "")}, {"g2p", flagged(true, true, 2, "")}, {"2gp", flagged(true, true, 2, "")}, {"2pg", flagged(true, true, 2, "")}, {"p2g", flagged(true, true, 2, "")}, {"pg2", flagged(true, true, 2, "")}, {"p12", flagged(false, true, 12, "")}, {"12p", flagged(false, true, 12, "")}, {"g7", flagged(true, false, 7, "")}, {"7g", flagged(true, false, 7, "")},
	} {
		wantRead(t, "s/a//"+q.s, q.c)
		wantRead(t, "s/a//"+q.s+" ;p", q.c, base('p'))
		wantRead(t, "{s/a//"+q.s+"}", base('{'), q.c, base('}'))
		to := q.c
		for _, name := range []string{"f", "g", "p", "2", "w", "out_1", as(api.MaxLabel)} {
			to.Text = name
			for _, gap := range []string{"", " ", " \t "} {
				wantRead(t, "s/a//"+q.s+"w"+gap+name, to)
				wantRead(t, "s/a//"+q.s+"w"+gap+name+gap+"\np", to, base('p'))
			}
		}
		// w is last, and has a label; nothing else may stand there, no blank ahead of a flag.
		wantFaults(t, api.ErrForm, "s/a//"+q.s+"w", "s/a//"+q.s+"w ", "s/a//"+q.s+"w\nf", "s/a//"+q.s+"w;", "s/a//"+q.s+"w "+as(api.MaxLabel+1), "s/a//"+q.s+"w f g", "s/a//"+q.s+"w f w f", "s/a//"+q.s+"w -", "s/a//"+q.s+" g", "s/a//"+q.s+" p", "s/a//"+q.s+" 2", "s/a//"+q.s+" w f", "s/a//"+q.s+"x", "s/a//"+q.s+"/", "s/a//"+q.s+"I", "s/a//"+q.s+"e", "s/a//"+q.s+"-1", "s/a//"+q.s+"!", "s/a//"+q.s+"G")
	}
	wantFaults(t, api.ErrForm, "s/a//gg", "s/a//pp", "s/a//gpg", "s/a//pgp", "s/a//1g1", "s/a//1g2", "s/a//1p2", "s/a//g1p1", "s/a//0", "s/a//00", "s/a//g0", "s/a//0g", "s/a//0g1", "s/a//1g0", "s/a//0w f", "s/a//100", "s/a//999", "s/a//0100", "s/a//9999", "s/a//10000", "s/a//18446744073709551617", "s/a//4294967297g", "s/a//100w f")
}

func TestParseReplacements(t *testing.T) {
	for _, q := range []struct {
		s string
		l []api.Piece
	}{
		{"", nil}, {"b", []api.Piece{lit("b")}}, {"&", []api.Piece{ref(0)}}, {"\\&", []api.Piece{lit("&")}}, {"\\/", []api.Piece{lit("/")}}, {"a\\/b", []api.Piece{lit("a/b")}}, {"\\\\", []api.Piece{lit("\\")}}, {"\\\\\\/", []api.Piece{lit("\\/")}}, {"\\n", []api.Piece{lit("\n")}}, {"[", []api.Piece{lit("[")}}, {"[\\/]", []api.Piece{lit("[/]")}}, {"x&y", []api.Piece{lit("x"), ref(0), lit("y")}}, {" ;}", []api.Piece{lit(" ;}")}}, {"\x00\xff", []api.Piece{lit("\x00\xff")}}, {as(api.MaxText), []api.Piece{lit(as(api.MaxText))}}, {times(1000, "&"), slices.Repeat([]api.Piece{ref(0)}, 1000)},
	} {
		wantRead(t, "s/a/"+q.s+"/", put(set("a"), q.l...))
		wantRead(t, "s/a/"+q.s+"/;s/[/]/"+q.s+"/", put(set("a"), q.l...), put(set("/"), q.l...))
		wantRead(t, "{$s/a/"+q.s+"/}", base('{'), api.Cmd{Op: 's', A: last(), Rx: set("a"), Tpl: q.l}, base('}'))
		wantFaults(t, api.ErrForm, "s/a/"+q.s, "s/a/"+q.s+"\\", "s/a/"+q.s+"\\/", "s/a/"+q.s+"\\/g", "s/a/"+q.s+"//", "s/a/"+q.s+"\n/", "s/a/"+q.s+"\\\n/", "s/a/"+q.s+"\\1/", "s/a/"+q.s+"\\0/", "s/a/"+q.s+"\\a/")
	}
	// A bracket is nothing in a replacement.
	wantFaults(t, api.ErrForm, "s/a/[/]/", "s/a/[/]", "s/a/"+as(api.MaxText+1)+"/", "s", "s/", "s//", "s///", "s//b/", "s/a", "s/a/", "s/a/b", "s,a,b,", "s|a|b|", "s /a/b/", "s\n/a/b/", "sa/b/", "s/a/b//")
	three := row(group(1, set("a")), group(2, set("b")), group(3, set("c")))
	wantReadAs(t, "s/(a)(b)(c)/\\3x\\12\\2&/", true, put(three, ref(3), lit("x"), ref(1), lit("2"), ref(2), ref(0)))
	wantFaultAs(t, "s/(a)(b)(c)/\\4/", true, api.ErrForm)
	wantFaultAs(t, "s/(a)(b)(c)/\\3/", false, api.ErrForm)
}

func TestParseTables(t *testing.T) {
	for _, q := range [][4]string{
		{"", "", "", ""}, {"a", "b", "a", "b"}, {"ab", "ba", "ab", "ba"}, {"abc", "xxx", "abc", "xxx"}, {"a\\/\\n\\\\", "1234", "a/\n\\", "1234"}, {"1234", "a\\/\\n\\\\", "1234", "a/\n\\"}, {"\\/", "\\n", "/", "\n"}, {"\\\\", "n", "\\", "n"}, {"\\\\n", "\\nn", "\\n", "\nn"}, {"[", "]", "[", "]"}, {"& ;", "}{\t", "& ;", "}{\t"}, {"\x00\xff", "\xff\x00", "\x00\xff", "\xff\x00"},
	} {
		c := swap(q[2], q[3])
		s := "y/" + q[0] + "/" + q[1] + "/"
		wantRead(t, s, c)
		wantRead(t, s+";"+s, c, c)
		wantRead(t, "{"+s+"}", base('{'), c, base('}'))
		wantRead(t, "1,$!"+s, api.Cmd{Op: 'y', A: line(1), B: last(), Not: true, Y: q[2], Z: q[3]})
		// Unlike lengths, a byte twice, another \, a raw line end, no end.
		wantFaults(t, api.ErrForm, "y/"+q[0]+"z/"+q[1]+"/", "y/"+q[0]+"/"+q[1]+"z/", "y/"+q[0]+"ZZ/"+q[1]+"zz/", "y/"+q[0]+"\\z/"+q[1]+"zz/", "y/"+q[0]+"z/"+q[1]+"\\a/", "y/"+q[0]+"\nz/"+q[1]+"zz/", "y/"+q[0]+"z/"+q[1]+"\n/", "y/"+q[0]+"/"+q[1], "y/"+q[0], s[:len(s)-1]+"\\/", s[:len(s)-1]+"\\", s+"g", s+"/", s+"p", s+"1", s+"w f")
	}
	var rising string
	for b := 33; b < 256; b++ {
		if b != '/' && b != '\\' {
			rising += string([]byte{byte(b)})
		}
	}
	wantRead(t, "y/"+rising+"/"+as(len(rising))+"/", swap(rising, as(len(rising))))
	wantFaults(t, api.ErrForm, "y/aa/bb/", "y/aba/xyz/", "y/\\n\\n/ab/", "y/\\/\\//ab/", "y", "y/", "y//", "y/a", "y/a/", "y/a//", "y//a/", "y,a,b,", "y /a/b/", "y/\\", "y/a/\\", "y/\\0/a/", "y/\\\n/a/", "y/[/]/ab/", "y/"+as(api.MaxText)+"/"+as(api.MaxText)+"/", "y/a/b/"+" x")
}

func TestParseHowManyCommands(t *testing.T) {
	for _, q := range []struct {
		s string
		c api.Cmd
	}{{"p;", base('p')}, {"p\n", base('p')}, {"a\\\nx\n", texted('a', "x")}, {"1,2!s/a//;", at('s', line(1), line(2), true)}, {"b\n \n;", base('b')}} {
		all := slices.Repeat(list(q.c), api.MaxCmds)
		wantRead(t, times(api.MaxCmds-1, q.s), all[1:]...)
		wantRead(t, times(api.MaxCmds, q.s), all...)
		wantRead(t, times(api.MaxCmds, q.s)+" ;\n\t", all...)
		wantRead(t, strings.TrimRight(times(api.MaxCmds, q.s), ";\n "), all...)
		// One more isn't read at all, whatever it would be; what is wrong ahead of it is told first.
		for _, more := range []string{"p", "z", "}", "{", "1", "$!", "//p", "\\", "\x00", "{}", "0p"} {
			wantFaults(t, api.ErrBig, times(api.MaxCmds, q.s)+more, times(api.MaxCmds+1, q.s)+more, times(api.MaxCmds, q.s)+" ; "+more)
		}
		wantFaults(t, api.ErrForm, "z"+times(api.MaxCmds+1, q.s), times(api.MaxCmds-1, q.s)+"z;p", times(api.MaxCmds-1, q.s)+"p p", times(api.MaxCmds-1, q.s)+"}", times(api.MaxCmds-1, q.s)+"{", times(api.MaxCmds-1, q.s)+"1")
	}
	wantRead(t, times(api.MaxCmds/2, "{};"), opsOf(times(api.MaxCmds/2, "{}"))...)
	wantFaults(t, api.ErrBig, times(api.MaxCmds/2, "{};")+"p", "{"+times(api.MaxCmds-1, "p;")+"}", times(api.MaxCmds-1, "p;")+"{p}", times(api.MaxCmds-1, "p;")+"{}")
}

func TestParseHowManyBytes(t *testing.T) {
	p := base('p')
	for _, gap := range []string{" ", "\t", "\n", ";"} {
		wantRead(t, times(api.MaxScript, gap))
		wantRead(t, "p"+times(api.MaxScript-1, gap), p)
		wantRead(t, times(api.MaxScript-1, gap)+"p", p)
		for _, n := range []int{1, 2, 1 << 16} {
			wantFaults(t, api.ErrBig, times(api.MaxScript+n, gap), "p"+times(api.MaxScript+n-1, gap), times(api.MaxScript+n-1, gap)+"p")
		}
	}
	wantFaults(t, api.ErrBig, as(api.MaxScript+1), times(api.MaxScript+1, "}"), times(api.MaxScript+1, "{"), "/"+times(api.MaxScript, "("), "z"+times(api.MaxScript, "\\"))
	wantFaults(t, api.ErrForm, as(api.MaxScript), times(api.MaxScript, "}"), times(api.MaxScript, "z"), times(api.MaxScript, "/"), times(api.MaxScript, "["), times(api.MaxScript, "\\"), "/"+times(api.MaxScript-1, "["), "/"+times(api.MaxScript/2-1, "[:"), "s/a/"+times(api.MaxScript-4, "\\"), times(api.MaxScript, "1"), times(api.MaxScript, "0"), "b"+as(api.MaxScript-1))
	wantFaults(t, api.ErrDeep, times(api.MaxScript, "{"))
}

func TestParseBraces(t *testing.T) {
	for s, want := range map[string]api.Errno{
		"{": api.ErrForm, "}": api.ErrForm, "}{": api.ErrForm, "{p": api.ErrForm, "{p}}": api.ErrForm, "{p;}}": api.ErrForm, "{{p}": api.ErrForm, "p}": api.ErrForm, "p;}": api.ErrForm, "{p;;": api.ErrForm, "1{": api.ErrForm, "{}\n}": api.ErrForm,
		times(7, "{") + times(7, "}"): api.ErrDeep, times(7, "{"): api.ErrDeep, times(7, "1{;") + "}": api.ErrDeep, times(6, "{") + "p;{p": api.ErrDeep, times(6, "{") + "p;{z": api.ErrDeep, times(5, "{") + "{};{};{{": api.ErrDeep, times(5, "{") + "{};z;{{": api.ErrForm, "}" + times(7, "{"): api.ErrForm, "z" + times(7, "{"): api.ErrForm, times(7, "{p;"): api.ErrDeep, times(6, "{") + "1,2!{": api.ErrDeep, times(6, "{") + times(7, "}"): api.ErrForm, times(6, "{"): api.ErrForm, times(6, "{") + times(5, "}"): api.ErrForm, times(8, "{") + "//": api.ErrDeep, times(6, "{") + "//{": api.ErrForm,
	} {
		wantFaults(t, want, s)
	}
	wantRead(t, times(6, "{")+times(6, "}"), opsOf(times(6, "{")+times(6, "}"))...)
	wantRead(t, times(6, "{;")+"p"+times(6, "};"), opsOf(times(6, "{")+"p"+times(6, "}"))...)
	wantRead(t, times(5, "{")+times(3, "{};")+times(5, "}"), opsOf(times(5, "{")+times(3, "{}")+times(5, "}"))...)
	wantRead(t, times(3, times(6, "{")+times(6, "}")+"\n"), opsOf(times(3, times(6, "{")+times(6, "}")))...)
}

// Of a fault any byte of the text may be told; these are those where one sees it.
func TestParseTellsTheByte(t *testing.T) {
	for s, want := range map[string]int{
		"p p": 2, "z": 0, "p;z": 2, "p;1z": 3, "1": 1, "1,p": 2, "0p": 0, "p;10000p": 2, "1,0p": 2, ",2p": 0, "1,2q": 3, "{1}": 2, "}": 0, "{": 1, "{p": 2, "{p}}": 3, "{p}p": 3, "a x": 1, "a": 1, "a\\": 2, "a\\x": 2, "a\\\nx\\": 5, "b -": 2, "b a b": 4, "p;:": 2, "w;p": 0, "//p": 1, "/a": 2, "/a**/p": 3, "/ab\\q/p": 3, "s/a": 3, "s//b/": 2, "s/a/x\\1/": 5, "s/a/b\n/": 5, "s/a/b/gg": 7, "s/a/b/z": 6, "s/a/b/w": 7, "y/a\\x/bc/": 4, "y/a\nb/123/": 3, "y/a/b": 5, "p;y/aa/bc/": 2, times(7, "{"): 6, "p;/" + times(7, "\\(") + "/p": 15, times(41, "p;"): 80, times(4001, " "): 4000,
	} {
		if _, got, err := Parse(s, false); got != want || err == api.OK {
			t.Errorf("%q: %d, not %d", s, got, want)
		}
	}
}
