package rx

import (
	"strings"
	"testing"

	"gloss/api"
	"gloss/bset"
)

// P4.2

func TestPrint(t *testing.T) {
	a, b := set("a"), set("b")
	for i, q := range []struct {
		r             api.Rx
		basic, extend string
	}{
		{cat(), "", ""},
		{cat(a, b, a), "aba", "aba"},
		{group(1, a), `\(a\)`, "(a)"},
		{group(1, cat()), `\(\)`, "()"},
		{group(1, group(2, cat(a, b))), `\(\(ab\)\)`, "((ab))"},
		{cat(group(1, a), group(2, b), backTo(2), backTo(1), set("0")), `\(a\)\(b\)\2\10`, `(a)(b)\2\10`},
		{group(1, cat(a, backTo(1))), `\(a\1\)`, `(a\1)`},
		{first(), "^", "^"},
		{last(), "$", "$"},
		{cat(first(), a, last()), "^a$", "^a$"},
		{group(1, cat(first(), last())), `\(^$\)`, "(^$)"},
		{cat(a, group(1, rep(0, -1, b)), backTo(1), last()), `a\(b*\)\1$`, `a(b*)\1$`},

		{rep(0, -1, a), "a*", "a*"},
		{rep(1, -1, a), `a\{1,\}`, "a+"},
		{rep(0, 1, a), `a\{0,1\}`, "a?"},
		{rep(1, 1, a), `a\{1\}`, "a{1}"},
		{rep(2, -1, a), `a\{2,\}`, "a{2,}"},
		{rep(20, -1, a), `a\{20,\}`, "a{20,}"},
		{rep(20, 20, a), `a\{20\}`, "a{20}"},
		{rep(0, 20, a), `a\{0,20\}`, "a{0,20}"},
		{rep(0, 2, a), `a\{0,2\}`, "a{0,2}"},
		{rep(1, 2, a), `a\{1,2\}`, "a{1,2}"},
		{rep(0, -1, group(1, a)), `\(a\)*`, "(a)*"},
		{cat(group(1, a), rep(1, -1, backTo(1))), `\(a\)\1\{1,\}`, `(a)\1+`},
		{rep(0, -1, set("*")), `\**`, `\**`},
		{cat(first(), rep(0, -1, set("*"))), `^\**`, `^\**`},
		{rep(0, -1, dot()), ".*", ".*"},
		{rep(0, -1, set("ab")), "[ab]*", "[ab]*"},
		{rep(3, 4, set("\n")), `\n\{3,4\}`, `\n{3,4}`},

		{cat(set("\\"), set("n")), `\\n`, `\\n`},
		{cat(set("\\"), set("(")), `\\(`, `\\\(`},
		{cat(set("a"), set("{"), set("1"), set("}")), "a{1}", `a\{1\}`},
	} {
		if s := Print(q.r, false); s != q.basic || !Right(q.r, false) {
			t.Errorf("%d: basic: %q, not %q", i, s, q.basic)
		}
		if s := Print(q.r, true); s != q.extend || !Right(q.r, true) {
			t.Errorf("%d: extended: %q, not %q", i, s, q.extend)
		}
	}
}

func TestPrintOfExtendedOnesAlone(t *testing.T) {
	a, b := set("a"), set("b")
	for i, q := range []struct {
		r api.Rx
		s string
	}{
		{alt(a, b), "a|b"},
		{alt(a, cat(), b), "a||b"},
		{alt(cat(), cat()), "|"},
		{alt(cat(a, b), rep(1, -1, a), first()), "ab|a+|^"},
		{rep(1, -1, group(1, alt(a, b))), "(a|b)+"},
		{group(1, alt(a, cat())), "(a|)"},
		{cat(a, first(), last(), b), "a^$b"},
	} {
		if s := Print(q.r, true); s != q.s {
			t.Errorf("%d: %q, not %q", i, s, q.s)
		}
	}
}

func TestEachByteByItself(t *testing.T) {
	for c := range 256 {
		one := string([]byte{byte(c)})
		for _, ere := range []bool{false, true} {
			want := one
			switch {
			case c == '\n':
				want = `\n`
			case strings.Contains(`.[]*^$\/`, one), ere && strings.Contains("+?{}|()", one):
				want = `\` + one
			}
			if s := Print(set(one), ere); s != want {
				t.Errorf("%v: %q, not %q", ere, s, want)
			}
		}
	}
}

func TestBrackets(t *testing.T) {
	for i, q := range []struct {
		r api.Rx
		s string
	}{
		{dot(), "."},
		{set("ab"), "[ab]"},
		{set("ba"), "[ab]"},
		{set("ab\n"), "[\nab]"},
		{set("a/"), "[/a]"},
		{set("^-"), "[-^]"},
		{set("]^"), "[]^]"},
		{set("]-"), "[]-]"},
		{set("]^-"), "[]^-]"},
		{set("a^"), "[a^]"},
		{set("a-"), "[a-]"},
		{set("+-"), "[+-]"},
		{set("a^-"), "[a^-]"},
		{set("z]^-+"), "[]+z^-]"},
		{set("_^"), "[_^]"},
		{set("[]"), "[][]"},
		{set("[:"), "[:[]"},
		{set("[.="), "[.=[]"},
		{set("[-"), "[[-]"},
		{set("[^"), "[[^]"},
		{set(":a"), "[:a]"},
		{set(".*"), "[*.]"},
		{set("\\n"), `[\n]`},
		{set("\\]"), `[]\]`},
		{set("\x00\xff"), "[\x00\xff]"},
		{not("a"), "[^a]"},
		{not("\n"), "[^\n]"},
		{not("]"), "[^]]"},
		{not("^"), "[^^]"},
		{not("-"), "[^-]"},
		{not("^-"), "[^^-]"},
		{not("]^-"), "[^]^-]"},
		{not("^-a"), "[^a^-]"},
		{not("["), "[^[]"},
		{not("\\"), `[^\]`},
	} {
		for _, ere := range []bool{false, true} {
			if s := Print(q.r, ere); s != q.s {
				t.Errorf("%d: %v: %q, not %q", i, ere, s, q.s)
			}
		}
	}
}

func TestMoreThanHalfIsToldByTheRest(t *testing.T) {
	for n := 2; n < 256; n++ {
		s := Print(oneSet(bset.Range(0, byte(n-1))), false)
		turned := strings.HasPrefix(s, "[^")
		if turned != (n > 128) {
			t.Errorf("%d bytes: %q", n, s)
		}
		bytes, size := n, len(s)-len("[]")
		if turned {
			bytes, size = 256-n, len(s)-len("[^]")
		}
		if size != bytes {
			t.Errorf("%d bytes: %d written", n, size)
		}
	}
	if s := Print(oneSet(bset.Range(128, 255)), true); s != "["+upperHalf()+"]" {
		t.Errorf("%q", s)
	}
	if s := Print(oneSet(bset.Range(0, 127)), true); strings.HasPrefix(s, "[^") || !strings.HasSuffix(s, "~\x7f^-]") || !strings.HasPrefix(s, "[]\x00\x01") {
		t.Errorf("%q", s)
	}
	if s := Print(oneSet(bset.Range(0, 128)), true); s != "[^"+upperHalf()[1:]+"]" {
		t.Errorf("%q", s)
	}
}

func upperHalf() string {
	var bs []byte
	for b := 128; b < 256; b++ {
		bs = append(bs, byte(b))
	}
	return string(bs)
}
