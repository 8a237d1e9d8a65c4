package rx

import (
	"strings"
	"testing"

	"gloss/api"
	"gloss/bset"
)

// P4.3

// wantRead holds what s is read as against r.
func wantRead(t *testing.T, s string, ere bool, r api.Rx) {
	t.Helper()
	got, at, err := Parse(s, ere)
	if err != api.OK || at != 0 || !Same(got, r) || !Right(got, ere) {
		t.Errorf("%q, %v: %v, %d, %d, not %v", s, ere, got, at, err, r)
	}
}

// wantRefused asks that s is refused in that way.
func wantRefused(t *testing.T, s string, ere bool, want api.Errno) {
	t.Helper()
	got, at, err := Parse(s, ere)
	if err != want || at < 0 || at > len(s) || !Same(got, api.Rx{}) {
		t.Errorf("%q, %v: %v, %d, %d, not %d", s, ere, got, at, err, want)
	}
}

func both(t *testing.T, s string, r api.Rx) {
	t.Helper()
	wantRead(t, s, false, r)
	wantRead(t, s, true, r)
}

func neither(t *testing.T, ss ...string) {
	t.Helper()
	for _, s := range ss {
		wantRefused(t, s, false, api.ErrForm)
		wantRefused(t, s, true, api.ErrForm)
	}
}

func TestRuns(t *testing.T) {
	wantRead(t, `a\(b*\)\1$`, false, cat(set("a"), group(1, rep(0, -1, set("b"))), backTo(1), last()))
	wantRead(t, "(a|b)+", true, rep(1, -1, group(1, alt(set("a"), set("b")))))
	both(t, "[^a]", not("a"))
	wantRead(t, "a|b", false, word("a|b"))
	wantRefused(t, "*a", true, api.ErrForm)
}

func TestPlainBytes(t *testing.T) {
	both(t, "", cat())
	for c := range 256 {
		one := string([]byte{byte(c)})
		if !strings.Contains(`.[*^$\`, one) {
			wantRead(t, one, false, set(one))
			wantRead(t, "a"+one, false, word("a"+one))
		}
		if !strings.Contains(`.[*^$\+?{|()`, one) {
			wantRead(t, one, true, set(one))
			wantRead(t, one+"a", true, word(one+"a"))
		}
	}
	both(t, ".", dot())
	both(t, "a\nb/]}", word("a\nb/]}"))
}

func TestQuotedBytes(t *testing.T) {
	neither(t, `\`, `a\`, `\\\`, `\0`)
	for c := range 256 {
		one := string([]byte{byte(c)})
		for _, ere := range []bool{false, true} {
			switch {
			case c == 'n':
				wantRead(t, `\n`, ere, set("\n"))
				wantRead(t, `a\nb`, ere, word("a\nb"))
			case strings.Contains(`.[]*^$\/`, one), ere && strings.Contains("+?{}|()", one):
				wantRead(t, `\`+one, ere, set(one))
				wantRead(t, `b\`+one+"c", ere, word("b"+one+"c"))
			default:
				wantRefused(t, `\`+one, ere, api.ErrForm)
				wantRefused(t, `a\`+one+"b", ere, api.ErrForm)
			}
		}
	}
}

func TestBracketsAreRead(t *testing.T) {
	for _, q := range []struct {
		s string
		r api.Rx
	}{
		{"[a]", set("a")}, {"[cba]", set("abc")}, {"[aaa]", set("a")}, {"[.]", set(".")}, {"[*^$]", set("*^$")}, {"[\n/]", set("\n/")}, {"[\x00\xff]", set("\x00\xff")},
		{"[]]", set("]")}, {"[]a]", set("]a")}, {"[^]]", not("]")}, {"[^]a]", not("]a")}, {"[a]]", word("a]")}, {"[]]]", word("]]")}, {"[]^]", set("]^")}, {"[][]", set("][")},
		{"[a^]", set("a^")}, {"[^^]", not("^")}, {"[^a^]", not("a^")}, {"[-^]", set("-^")}, {"[]^-]", set("]^-")},
		{"[-]", set("-")}, {"[^-]", not("-")}, {"[-a]", set("-a")}, {"[a-]", set("a-")}, {"[^-a]", not("-a")}, {"[^a-]", not("a-")}, {"[]-]", set("]-")}, {"[--]", set("-")}, {"[-a-]", set("-a")},
		{"[a-c]", set("abc")}, {"[a-a]", set("a")}, {"[^a-c]", not("abc")}, {"[xa-cy]", set("xabcy")}, {"[a-c-]", set("abc-")}, {"[a-c-e]", set("abc-e")}, {"[a-cx-z]", set("abcxyz")}, {"[a-b-c-d]", set("ab-cd")},
		{"[--/]", set("-./")}, {"[+--]", set("+,-")}, {"[---]", set("-")}, {"[^--/]", not("-./")}, {"[a-c--/]", set("abc-./")}, {"[]-a]", set("]^_`a")}, {"[Z-^]", set("Z[\\]^")}, {"[^^-a]", not("^_`a")}, {"[a-]-z]", cat(set("a-"), set("-"), set("z"), set("]"))},
		{"[\x00-\xff]", dot()}, {"[\x80-\xff]", oneSet(bset.Range(128, 255))}, {"[^\x01-\xff]", set("\x00")},
		{`[\]`, set(`\`)}, {`[\n]`, set(`\n`)}, {`[\]]`, word(`\]`)}, {`[a\]`, set(`a\`)}, {`[A-\]`, oneSet(bset.Range('A', '\\'))}, {`[\-a]`, set("\\]^_`a")},
		{"[[:digit:]]", set("0123456789")}, {"[^[:digit:]]", not("0123456789")}, {"[[:digit:]x]", set("0123456789x")}, {"[x[:digit:]y]", set("0123456789xy")}, {"[[:blank:][:digit:]]", set("\t 0123456789")}, {"[][:blank:]-]", set("]\t -")},
		{"[[:blank:]-a]", set("\t -a")}, {"[[:blank:]-]", set("\t -")}, {"[-[:blank:]]", set("\t -")}, {"[[:blank:]--/]", set("\t -./")}, {"[[:blank:]]]", cat(set("\t "), set("]"))},
		{"[:digit:]", set(":digt")}, {"[:]", set(":")}, {"[::]", set(":")},
		{"[[]", set("[")}, {"[[a]", set("[a")}, {"[a[]", set("a[")}, {"[[.]", set("[.")}, {"[[=]", set("[=")}, {"[[.a.]", set("[.a")}, {"[[=a=]]", cat(set("[=a"), set("]"))}, {"[[-a]", set("[\\]^_`a")}, {"[Z-[]", set("Z[")}, {"[Z-[.]", set("Z[.")}, {"[[[]", set("[")}, {"[^[]", not("[")},
	} {
		r := q.r
		both(t, q.s, r)
		if r.Kind == api.RCat {
			both(t, "x"+q.s, cat(append([]api.Rx{set("x")}, r.Kids...)...))
		} else {
			both(t, "x"+q.s+"*", cat(set("x"), rep(0, -1, r)))
			wantRead(t, "("+q.s+")", true, group(1, r))
		}
	}
	for _, name := range strings.Fields("alpha digit alnum upper lower space blank punct print graph cntrl xdigit") {
		class, _ := bset.Class(name)
		both(t, "[[:"+name+":]]", oneSet(class))
		both(t, "[^a[:"+name+":]]", oneSet(bset.Not(bset.Join(class, bset.Of('a')))))
	}
}

func TestBracketsThatAreNone(t *testing.T) {
	neither(t, "[", "[^", "[]", "[^]", "[a", "[^a", "[]a", "[-", "[a-", "[a-b", "[]-", `[\`, "a[", "a[b*",
		"[b-a]", "[a-Z]", "[a--]", "[b-a", "[\xff-\x00]", `[a-\]`, "[^b-a]",
		"[[:", "[[:]", "[[:]]", "[[::]]", "[[:foo:]]", "[[:ALPHA:]]", "[[:alpha]", "[[:alpha:", "[[:alpha:]", "[[:alpha]:]", "[a[:]", "[[: alpha:]]", "[[:alpha :]]", "[[:digit:",
		"[a-[:alpha:]]", "[A-[:alpha:]]", "[A-[:foo:]]", "[A-[:]", "[[:alpha:", "[^\x00-\xff]", "a[^\x00-\xff]b")
	wantRefused(t, "([)]", true, api.ErrForm)
	wantRefused(t, `\([\)]`, false, api.ErrForm)
}

func TestStarOfBasicOnes(t *testing.T) {
	star := set("*")
	for s, r := range map[string]api.Rx{
		"*":          star,
		"*a":         word("*a"),
		"**":         rep(0, -1, star),
		"**a":        cat(rep(0, -1, star), set("a")),
		"^*":         cat(first(), star),
		"^*a":        cat(first(), star, set("a")),
		"^**":        cat(first(), rep(0, -1, star)),
		`^*\{2\}`:    cat(first(), rep(2, 2, star)),
		`*\{2\}`:     rep(2, 2, star),
		`\(*\)`:      group(1, star),
		`\(*a\)`:     group(1, word("*a")),
		`\(^*\)`:     group(1, cat(first(), star)),
		`\(**\)*`:    rep(0, -1, group(1, rep(0, -1, star))),
		`a\(*\)`:     cat(set("a"), group(1, star)),
		`\(a\)*`:     rep(0, -1, group(1, set("a"))),
		`\(a\)\1*`:   cat(group(1, set("a")), rep(0, -1, backTo(1))),
		"a*":         rep(0, -1, set("a")),
		"a*b*":       cat(rep(0, -1, set("a")), rep(0, -1, set("b"))),
		"a^*":        cat(set("a"), rep(0, -1, set("^"))),
		"^^*":        cat(first(), rep(0, -1, set("^"))),
		"$*":         rep(0, -1, set("$")),
		"a$*":        cat(set("a"), rep(0, -1, set("$"))),
		`\**`:        rep(0, -1, star),
		`\(\(*\)*\)`: group(1, rep(0, -1, group(2, star))),
	} {
		wantRead(t, s, false, r)
	}
	for _, s := range []string{"a**", "***", "^***", `\(***\)`, `a*\{1\}`, `a\{1\}*`, `a\{1\}\{1\}`, `\{1\}`, `^\{1\}`, `\(\{1\}\)`, `\(^\{1\}\)`, `a\(a**\)`} {
		wantRefused(t, s, false, api.ErrForm)
	}
}

func TestAnchorsOfBasicOnes(t *testing.T) {
	for s, r := range map[string]api.Rx{
		"^":            first(),
		"$":            last(),
		"^$":           cat(first(), last()),
		"^a$":          cat(first(), set("a"), last()),
		"^^":           cat(first(), set("^")),
		"$$":           cat(set("$"), last()),
		"$^":           word("$^"),
		"a^b":          word("a^b"),
		"a^":           word("a^"),
		"$a":           word("$a"),
		"a$b":          word("a$b"),
		"*^":           word("*^"),
		`\^a\$`:        word("^a$"),
		`\(^\)`:        group(1, first()),
		`\($\)`:        group(1, last()),
		`a\(^b$\)c`:    cat(set("a"), group(1, cat(first(), set("b"), last())), set("c")),
		`\(a\)^`:       cat(group(1, set("a")), set("^")),
		`$\(a\)`:       cat(set("$"), group(1, set("a"))),
		`\(a^\)`:       group(1, word("a^")),
		`\($a\)`:       group(1, word("$a")),
		`\(a$\)*`:      rep(0, -1, group(1, cat(set("a"), last()))),
		`^\(^\(^\)\)`:  cat(first(), group(1, cat(first(), group(2, first())))),
		`\(\($\)$\)$`:  cat(group(1, cat(group(2, last()), last())), last()),
		`a$\{2\}`:      cat(set("a"), rep(2, 2, set("$"))),
		`^\(*\)`:       cat(first(), group(1, set("*"))),
		"$\\n":         word("$\n"),
		"[^$]$":        cat(not("$"), last()),
		`a\{2\}$`:      cat(rep(2, 2, set("a")), last()),
		"x$)":          word("x$)"),
		"^(a|b)+{1}?$": cat(append(append([]api.Rx{first()}, word("(a|b)+{1}?").Kids...), last())...),
	} {
		wantRead(t, s, false, r)
	}
}

func TestExtendedOnes(t *testing.T) {
	a, b := set("a"), set("b")
	for s, r := range map[string]api.Rx{
		"a|b":       alt(a, b),
		"a|b|a":     alt(a, b, a),
		"|":         alt(cat(), cat()),
		"a|":        alt(a, cat()),
		"|a":        alt(cat(), a),
		"||":        alt(cat(), cat(), cat()),
		"ab|b*":     alt(word("ab"), rep(0, -1, b)),
		"(a|b)":     group(1, alt(a, b)),
		"(|)":       group(1, alt(cat(), cat())),
		"()":        group(1, cat()),
		"()*":       rep(0, -1, group(1, cat())),
		"(a)|(b)":   alt(group(1, a), group(2, b)),
		"(a)|\\1":   alt(group(1, a), backTo(1)),
		"a+b?":      cat(rep(1, -1, a), rep(0, 1, b)),
		"(a)+":      rep(1, -1, group(1, a)),
		"[+]+":      rep(1, -1, set("+")),
		".?":        rep(0, 1, dot()),
		"^":         first(),
		"$":         last(),
		"^^$$":      cat(first(), first(), last(), last()),
		"a^b$a":     cat(a, first(), b, last(), a),
		"^a|b$":     alt(cat(first(), a), cat(b, last())),
		"(^a)$":     cat(group(1, cat(first(), a)), last()),
		"]":         set("]"),
		"}":         set("}"),
		"a]}":       word("a]}"),
		"a}*":       cat(a, rep(0, -1, set("}"))),
		"]?":        rep(0, 1, set("]")),
		"a{2}}":     cat(rep(2, 2, a), set("}")),
		`\(\)\{\}`:  word("(){}"),
		`\(a\)`:     word("(a)"),
		`\|\+\?`:    word("|+?"),
		`\**`:       rep(0, -1, set("*")),
		"a{2}{":     {},
		"(a)(b)\\2": cat(group(1, a), group(2, b), backTo(2)),
	} {
		if r.Kind == 0 {
			wantRefused(t, s, true, api.ErrForm)
			continue
		}
		wantRead(t, s, true, r)
	}
	for _, s := range []string{
		"*", "+", "?", "{1}", "*a", "(*a)", "(+)", "a|*", "a|*b", "|?", "(a|+)", "({1})", "^*", "^+", "$?", "a$*", "a^{2}", "$*", "^*a",
		"a**", "a*+", "a+?", "a??", "a{1}*", "a*{1}", "a{1}{1}", "(a)**", "()++",
		"{", "a{", "a|{", "({)", "{a", "a{b}", "a{}", "a{,}", "a{1,2,3}",
		")", "a)", "(a))", "a|)", "(", "(a", "((a)", "a(", "(a|", "(()", "())",
	} {
		wantRefused(t, s, true, api.ErrForm)
	}
}

func TestIntervals(t *testing.T) {
	a := set("a")
	for _, q := range []struct {
		s         string
		low, high int
	}{
		{"1", 1, 1}, {"2", 2, 2}, {"19", 19, 19}, {"20", 20, 20}, {"0,1", 0, 1}, {"0,20", 0, 20}, {"0,", 0, -1}, {"1,", 1, -1}, {"20,", 20, -1}, {"3,3", 3, 3}, {"3,4", 3, 4}, {"20,20", 20, 20},
		{"01", 1, 1}, {"000000000000000000000000000002,0020", 2, 20}, {"00,", 0, -1},
	} {
		wantRead(t, "a{"+q.s+"}", true, rep(q.low, q.high, a))
		wantRead(t, `a\{`+q.s+`\}`, false, rep(q.low, q.high, a))
		wantRead(t, "(a){"+q.s+"}b", true, cat(rep(q.low, q.high, group(1, a)), set("b")))
		wantRead(t, `b\(a\)\{`+q.s+`\}`, false, cat(set("b"), rep(q.low, q.high, group(1, a))))
	}
	for _, s := range []string{"0", "00", "0,0", "21", "021", "21,", "1,21", "20,21", "3,2", "1,0", "", ",", ",2", "1,2,", "1,,2", " 1", "1 ", "1, 2", "-1", "+1", "1,-1", "x", "1x", "1,x", "1.", "99999999999999999999", "18446744073709551617", "1,4294967298", "4294967297,"} {
		wantRefused(t, "a{"+s+"}", true, api.ErrForm)
		wantRefused(t, `a\{`+s+`\}`, false, api.ErrForm)
	}
	for _, s := range []string{`a\{1`, `a\{1}`, `a\{1,`, `a\{`, `a\{1\`, `a\}`, `\}`, `a\{1\)`, `a\{1,2`, `\(a\{1\)\}`} {
		wantRefused(t, s, false, api.ErrForm)
	}
	for _, s := range []string{"a{1", "a{1,", "a{1,2", "a{", `a{1\}`, "(a{1)}"} {
		wantRefused(t, s, true, api.ErrForm)
	}
}

func TestGroupsAndBackReferences(t *testing.T) {
	a, b := set("a"), set("b")
	for _, q := range []struct {
		basic, extend string
		r             api.Rx
	}{
		{`\(a\)\(b\)\(\)`, "(a)(b)()", cat(group(1, a), group(2, b), group(3, cat()))},
		{`\(\(a\)b\)\(a\)`, "((a)b)(a)", cat(group(1, cat(group(2, a), b)), group(3, a))},
		{`\(\(\(\)\)\)`, "((()))", nested(3)},
		{`\(a\)\1`, `(a)\1`, cat(group(1, a), backTo(1))},
		{`\(a\1\)`, `(a\1)`, group(1, cat(a, backTo(1)))},
		{`\(\1\)`, `(\1)`, group(1, backTo(1))},
		{`\(\(a\)\1\2\)`, `((a)\1\2)`, group(1, cat(group(2, a), backTo(1), backTo(2)))},
		{`\(a\)\(b\)\(a\)\3\2\1`, `(a)(b)(a)\3\2\1`, cat(group(1, a), group(2, b), group(3, a), backTo(3), backTo(2), backTo(1))},
		{`\(a\)\10`, `(a)\10`, cat(group(1, a), backTo(1), set("0"))},
		{`\(a\)*\1*`, `(a)*\1*`, cat(rep(0, -1, group(1, a)), rep(0, -1, backTo(1)))},
	} {
		wantRead(t, q.basic, false, q.r)
		wantRead(t, q.extend, true, q.r)
	}
	neither(t, `\1`, `\9`, `\0`, `a\1`)
	for _, s := range []string{`(a)\2`, `\1(a)`, `(a)\2(b)`, `(a\2)`, `(a)\0`, `(\2(a))`, `(a)(b)(c)\4`, `(a)|\2`, `(a)(b)\3*`} {
		wantRefused(t, s, true, api.ErrForm)
		basic := strings.NewReplacer("(", `\(`, ")", `\)`).Replace(s)
		wantRefused(t, strings.ReplaceAll(basic, "|", ""), false, api.ErrForm)
	}
	for _, s := range []string{`\(`, `\(a`, `\)`, `a\)`, `\(a\)\)`, `\(a)`, `(a\)`, `\(\(a\)`} {
		wantRefused(t, s, false, api.ErrForm)
	}
}

func TestDeepTextsAreRefused(t *testing.T) {
	for n := 1; n <= 3*api.MaxDeep; n++ {
		extend := strings.Repeat("(", n) + strings.Repeat(")", n)
		basic := strings.Repeat(`\(`, n) + strings.Repeat(`\)`, n)
		switch {
		case n <= api.MaxGroups:
			wantRead(t, extend, true, nested(n))
			wantRead(t, basic, false, nested(n))
		case n <= api.MaxDeep:
			wantRefused(t, extend, true, api.ErrBig)
			wantRefused(t, basic, false, api.ErrBig)
		default:
			wantRefused(t, extend, true, api.ErrDeep)
			wantRefused(t, basic, false, api.ErrDeep)
		}
	}
	// As many groups side by side are not deep.
	wantRefused(t, strings.Repeat("()", api.MaxDeep+1), true, api.ErrBig)
	wantRefused(t, strings.Repeat("((()))", api.MaxDeep), true, api.ErrBig)
	// The first fault is told, from the left.
	deep := strings.Repeat("(", api.MaxDeep+1)
	wantRefused(t, deep, true, api.ErrDeep)
	wantRefused(t, deep+"*", true, api.ErrDeep)
	wantRefused(t, "*"+deep, true, api.ErrForm)
	wantRefused(t, strings.Repeat("(", api.MaxDeep), true, api.ErrForm)
	wantRefused(t, "(((((([)", true, api.ErrForm)
}

func TestBigTextsAreRefused(t *testing.T) {
	as := func(n int) string { return strings.Repeat("a", n) }
	for _, ere := range []bool{false, true} {
		wantRead(t, as(api.MaxRx-1), ere, word(as(api.MaxRx-1)))
		wantRead(t, as(api.MaxRx-2)+"*", ere, cat(append(word(as(api.MaxRx-3)).Kids, rep(0, -1, set("a")))...))
		for _, s := range []string{as(api.MaxRx), as(api.MaxRx-2) + "a*", as(api.MaxRx-2) + "[ab]$", as(api.MaxRx-1) + "$", as(1000), as(1 << 20)} {
			wantRefused(t, s, ere, api.ErrBig)
		}
		wantRefused(t, as(100)+`\`, ere, api.ErrForm)
		wantRefused(t, as(100)+"[", ere, api.ErrForm)
		wantRefused(t, as(100)+"**", ere, api.ErrForm)
	}
	wantRead(t, "("+as(api.MaxRx-2)+")", true, group(1, word(as(api.MaxRx-2))))
	wantRefused(t, "("+as(api.MaxRx-1)+")", true, api.ErrBig)
	wantRead(t, `\(`+as(api.MaxRx-2)+`\)`, false, group(1, word(as(api.MaxRx-2))))
	wantRefused(t, `\(`+as(api.MaxRx-1)+`\)`, false, api.ErrBig)
	bars := strings.Repeat("|", api.MaxRx-2)
	if r, at, err := Parse(bars, true); err != api.OK || at != 0 || Nodes(r) != api.MaxRx || r.Kind != api.RAlt {
		t.Error(at, err)
	}
	wantRefused(t, bars+"|", true, api.ErrBig)
	wantRefused(t, as(api.MaxRx-2)+"|a", true, api.ErrBig)
	wantRefused(t, strings.Repeat("a|", 1<<16), true, api.ErrBig)
	if r, _, err := Parse(as(api.MaxRx-4)+"|a", true); err != api.OK || Nodes(r) != api.MaxRx-1 {
		t.Error(err)
	}
	wantRefused(t, "()()()()", true, api.ErrBig)
	wantRefused(t, `()()()()\4`, true, api.ErrBig)
	wantRefused(t, `\(\)\(\)\(\)\(\)`, false, api.ErrBig)
	wantRefused(t, `()()()()\5`, true, api.ErrForm)
	wantRefused(t, "()()()()(", true, api.ErrForm)
	wantRefused(t, strings.Repeat("()", 1<<16), true, api.ErrBig)
	wantRefused(t, as(50)+"(", true, api.ErrForm)
	wantRefused(t, as(50)+strings.Repeat("(", api.MaxDeep+1), true, api.ErrDeep)
}
