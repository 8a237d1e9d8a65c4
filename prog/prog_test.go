package prog

import (
	"fmt"
	"slices"
	"strings"
	"testing"

	"gloss/api"
	"gloss/read"
)

// Helpers.

var basic, extended = api.Options{}, api.Options{Ere: true}

// list is the commands that a script is read as.
func list(t *testing.T, s string, o api.Options) []api.Cmd {
	t.Helper()
	l, at, err := read.Parse(s, o.Ere)
	if err != api.OK {
		t.Fatalf("%q isn't read: %d, %d", s, at, err)
	}
	return l
}

// made is the program of a script that both Make and Load take.
func made(t *testing.T, s string, o api.Options) *api.Prog {
	t.Helper()
	l := list(t, s, o)
	p, at, err := Make(l, o)
	if p == nil || at != 0 || err != api.OK {
		t.Fatalf("%q isn't made: %v, %d, %d", s, p, at, err)
	}
	if !read.Same(p.Cmds, l) {
		t.Errorf("%q: the commands are others: %+v", s, p.Cmds)
	}
	q, at, err := Load(s, o)
	if q == nil || at != 0 || err != api.OK {
		t.Fatalf("%q isn't loaded: %v, %d, %d", s, q, at, err)
	}
	if !same(p, q) {
		t.Errorf("%q: Make and Load tell other things: %+v, %+v", s, p, q)
	}
	wantAgain(t, q)
	return p
}

// same tells whether a and b are alike in all that is in them.
func same(a, b *api.Prog) bool {
	return a.Opts == b.Opts && read.Same(a.Cmds, b.Cmds) && slices.Equal(a.Jump, b.Jump) &&
		slices.Equal(a.Streams, b.Streams) && a.Top == b.Top && a.Lines == b.Lines
}

// P10.3

// wantAgain asks that p's text is loaded, and made again, as p.
func wantAgain(t *testing.T, p *api.Prog) {
	t.Helper()
	s := Text(p)
	q, at, err := Load(s, p.Opts)
	if q == nil || at != 0 || err != api.OK || !same(p, q) || Text(q) != s {
		t.Fatalf("%q is loaded as %+v, %d, %d", s, q, at, err)
	}
	r, at, err := Make(q.Cmds, q.Opts)
	if r == nil || at != 0 || err != api.OK || !same(p, r) || Text(r) != s {
		t.Fatalf("%q is made as %+v, %d, %d", s, r, at, err)
	}
}

// wantRefused asks that a list is refused at a place.
func wantRefused(t *testing.T, l []api.Cmd, o api.Options, at int, err api.Errno) {
	t.Helper()
	if p, gotAt, gotErr := Make(l, o); p != nil || gotAt != at || gotErr != err {
		t.Errorf("%q: %v, %d, %d; want %d, %d", read.Print(l, o.Ere), p, gotAt, gotErr, at, err)
	}
}

// wantFault asks that a script is read, and its commands refused at a place.
func wantFault(t *testing.T, s string, at int, err api.Errno) {
	t.Helper()
	wantRefused(t, list(t, s, basic), basic, at, err)
	if p, gotAt, gotErr := Load(s, basic); p != nil || gotAt != 0 || gotErr != err {
		t.Errorf("%q is loaded: %v, %d, %d; want 0, %d", s, p, gotAt, gotErr, err)
	}
}

// P10.1: what a program is

func TestJump(t *testing.T) {
	for _, c := range []struct {
		s    string
		want []int
	}{
		{"", nil},
		{"p", []int{-1}},
		{"1{b x};p;:x", []int{2, 4, -1, -1, -1}},
		// Without a label: behind all commands.
		{"b", []int{1}},
		{"t", []int{1}},
		{"b;t;p", []int{3, 3, -1}},
		{"p;p;b", []int{-1, -1, 3}},
		{"{b}", []int{2, 3, -1}},
		// To one ahead, to one behind, to the one beside it.
		{":a;b a", []int{-1, 0}},
		{"b a;:a", []int{1, -1}},
		{"t a;p;:a;p;t a", []int{2, -1, -1, -1, 2}},
		{":a;:b;:c;b c;t b;b a;t", []int{-1, -1, -1, 2, 1, 0, 7}},
		{"b c;t b;b a;:a;:b;:c", []int{5, 4, 3, -1, -1, -1}},
		// Into braces, out of them, from one pair to another.
		{"b x;{:x;p}", []int{2, 4, -1, -1, -1}},
		{"{b x;p};:x", []int{3, 4, -1, -1, -1}},
		{"{b x};{:x}", []int{2, 4, -1, 5, -1, -1}},
		// Braces beside each other, and within each other.
		{"{}", []int{1, -1}},
		{"{};{}", []int{1, -1, 3, -1}},
		{"{p};{p;p};{}", []int{2, -1, -1, 6, -1, -1, -1, 8, -1}},
		{"{{}}", []int{3, 2, -1, -1}},
		{"{{p};{p}}", []int{7, 3, -1, -1, 6, -1, -1, -1}},
		{"{{{{{{p}}}}}}", []int{12, 11, 10, 9, 8, 7, -1, -1, -1, -1, -1, -1, -1}},
		{"{{{{{{}}}}};{}}", []int{13, 10, 9, 8, 7, 6, -1, -1, -1, -1, -1, 12, -1, -1}},
		{"p;{;};p", []int{-1, 2, -1, -1}},
		// What looks like a label, or like a brace, and is none.
		{"w x\na\\\nx\ns/x/x/w x\ny/x/{/\n:x", []int{-1, -1, -1, -1, -1}},
		{"a\\\n:x\n:x\nb x", []int{-1, -1, 1}},
		{"w x;t y;:y;:x;b x", []int{-1, 2, -1, -1, 3}},
		{"{s/}/{/;y/}/{/;a\\\n}\n}", []int{4, -1, -1, -1, -1}},
		// Names are told from one another by all their bytes.
		{":A;:a;:aa;:a_;:0;:00;b a;b A;t a_;t aa;b 00;b 0", []int{-1, -1, -1, -1, -1, -1, 1, 0, 3, 2, 5, 4}},
		{":abcdefgh;:abcdefgH;b abcdefgH;t abcdefgh", []int{-1, -1, 1, 0}},
		// The others.
		{"=;d;D;g;G;h;H;n;N;p;P;q;x", slices.Repeat([]int{-1}, 13)},
		{"a\\\nx\ni\\\nx\nc\\\nx\ns/a/b/;y/a/b/;w x;:x", slices.Repeat([]int{-1}, 7)},
		// Addresses and a ! turn nothing.
		{"1,3!{/x/b x\n$!t\n};:x", []int{3, 4, 5, -1, -1}},
	} {
		if p := made(t, c.s, basic); !slices.Equal(p.Jump, c.want) {
			t.Errorf("%q: %v, want %v", c.s, p.Jump, c.want)
		}
	}
}

func TestJumpOfManyCommands(t *testing.T) {
	last := api.MaxCmds - 1
	p := made(t, "b x;"+strings.Repeat("p;", last-1)+":x", basic)
	if p.Jump[0] != last || len(p.Jump) != api.MaxCmds || slices.Max(p.Jump[1:]) != -1 {
		t.Error(p.Jump)
	}
	p = made(t, ":x;"+strings.Repeat("p;", last-1)+"b x", basic)
	if p.Jump[last] != 0 || slices.Max(p.Jump[:last]) != -1 {
		t.Error(p.Jump)
	}
	p = made(t, "{"+strings.Repeat("b;", last-1)+"}", basic)
	if p.Jump[0] != last || p.Jump[last] != -1 || slices.Min(p.Jump[1:last]) != api.MaxCmds {
		t.Error(p.Jump)
	}
	var names []string
	for i := range api.MaxCmds / 2 {
		names = append(names, fmt.Sprint("n", i))
	}
	p = made(t, ":"+strings.Join(names, ";:")+";b "+strings.Join(names, ";b "), basic)
	for i := range names {
		if p.Jump[i] != -1 || p.Jump[len(names)+i] != i {
			t.Error(i, p.Jump)
		}
	}
}

func TestStreams(t *testing.T) {
	for _, c := range []struct {
		s    string
		want []string
	}{
		{"", nil},
		{"p;s/a/b/;b x;:x", nil},
		{"w a", []string{"a"}},
		{"s/a/b/w a", []string{"a"}},
		{"s/a/b/gp2w a", []string{"a"}},
		{":a;w f;s/a/b/w g;w f;s/a/b/;/x/,17b a", []string{"f", "g"}},
		// In the order in which they stand, not in that of their names.
		{"w d;w c;w b;w a", []string{"d", "c", "b", "a"}},
		{"s/a/b/w d\nw c\ns/a/b/w b\nw a", []string{"d", "c", "b", "a"}},
		// Each once.
		{"w a;w a;w a;w a;w a;w a", []string{"a"}},
		{"w a;s/a/b/w a\ns/a/b/w a\nw a", []string{"a"}},
		{"w b;w a;w b;w c;w a", []string{"b", "a", "c"}},
		{"w a;w b;w c;w d;w a;w d;s/a/b/w b\nw c", []string{"a", "b", "c", "d"}},
		// Within braces, at addresses, where no run comes.
		{"{w a\n};$!{1,3!w b\n};b;w c", []string{"a", "b", "c"}},
		{"w A;w a;w aa;w abcdefgh", []string{"A", "a", "aa", "abcdefgh"}},
		{"w 1;w 0;w _;w 01", []string{"1", "0", "_", "01"}},
		// Texts of others.
		{"a\\\nx\ni\\\ny\nc\\\nz\nb v;t v;:v;y/u/v/", nil},
	} {
		if p := made(t, c.s, basic); !slices.Equal(p.Streams, c.want) {
			t.Errorf("%q: %q, want %q", c.s, p.Streams, c.want)
		}
	}
}

func TestTop(t *testing.T) {
	for _, c := range []struct {
		s    string
		want int
	}{
		{"", 0},
		{"p", 0},
		{"$p;/9/p;/1/,$p", 0},
		{"1p", 1},
		{"9999p", 9999},
		{"7,3p", 7},
		{"3,7p", 7},
		{"/x/,17p", 17},
		{"$,17p", 17},
		{"17,/x/p", 17},
		{"9,4p", 9},
		{"5p;3p;4p", 5},
		{"3p;4,6p;5p", 6},
		{"1,2p;$p;8!p;7p", 8},
		{"{p;{2,30p}};4p", 30},
		{"12{p}", 12},
		// Numbers that are no lines'.
		{"s/a/b/99", 0},
		{"2s/a/b/99", 2},
		{"a\\\n9\ny/1/9/;b 99;:99;w 77", 0},
		{"/a\\{20\\}/p", 0},
	} {
		if p := made(t, c.s, basic); p.Top != c.want {
			t.Errorf("%q: %d, want %d", c.s, p.Top, c.want)
		}
	}
}

func TestLines(t *testing.T) {
	for _, c := range []struct {
		s    string
		want bool
	}{
		{"", false},
		{"=", true},
		{"p;p;=", true},
		{"=;p", true},
		{"3=", true},
		{"$!=", true},
		{"{=}", true},
		{"1{p;{p;=;p};p}", true},
		{"b;=", true},
		{"p;n;N;q", false},
		{"a\\\n=\ns/=/=/;y/=/-/;/=/p", false},
	} {
		if p := made(t, c.s, basic); p.Lines != c.want {
			t.Errorf("%q: %v", c.s, p.Lines)
		}
	}
}

func TestOptions(t *testing.T) {
	for _, o := range []api.Options{{}, {Quiet: true}, {Ere: true}, {Quiet: true, Ere: true}} {
		for _, s := range []string{"", "p", "/a*/p", "1{s/a/b/w f\n};="} {
			p := made(t, s, o)
			if p.Opts != o {
				t.Errorf("%q: %v, want %v", s, p.Opts, o)
			}
		}
		if p, at, err := Make(nil, o); err != api.OK || at != 0 || !same(p, &api.Prog{Opts: o}) {
			t.Error(p, at, err)
		}
	}
	// One text, two expressions; one of them is none of the other kind.
	for _, quiet := range []bool{false, true} {
		e, b := api.Options{Quiet: quiet, Ere: true}, api.Options{Quiet: quiet}
		const s = "/a|b/p"
		if p := made(t, s, e); p.Cmds[0].A.Rx.Kind != api.RAlt {
			t.Error(p)
		}
		if p := made(t, s, b); p.Cmds[0].A.Rx.Kind != api.RCat {
			t.Error(p)
		}
		wantRefused(t, list(t, s, e), b, 0, api.ErrForm)
		made(t, "/(/p", b)
		if p, at, err := Load("/(/p", e); p != nil || err != api.ErrForm || at < 0 || at > len("/(/p") {
			t.Error(p, at, err)
		}
	}
}

// P10.1: what is refused

func TestListsThatArentRight(t *testing.T) {
	p, w := api.Cmd{Op: 'p'}, api.Cmd{Op: 'w', Text: "f"}
	for _, l := range [][]api.Cmd{
		{{}},
		{{Op: 'z'}},
		{p, {Op: 'z'}},
		{p, p, {Op: 'w'}},
		{{Op: '{'}},
		{{Op: '}'}},
		{{Op: '}'}, {Op: '{'}},
		{p, {Op: '{'}, {Op: '{'}, {Op: '}'}},
		{{Op: ':'}},
		{{Op: ':', Text: "a b"}},
		{{Op: 'b', Text: "123456789"}},
		{{Op: ':', Text: "a", Not: true}},
		{{Op: 'p', A: api.Addr{Kind: api.ALine}}},
		{{Op: 'p', A: api.Addr{Kind: api.ALine, Line: 10000}}},
		{{Op: 'p', B: api.Addr{Kind: api.ALine, Line: 1}}},
		{{Op: 's'}},
		{{Op: 'p', Text: "x"}},
		append(slices.Repeat([]api.Cmd{{Op: '{'}}, api.MaxDeep+1), slices.Repeat([]api.Cmd{{Op: '}'}}, api.MaxDeep+1)...),
		slices.Repeat([]api.Cmd{p}, api.MaxCmds+1),
		slices.Repeat([]api.Cmd{w}, api.MaxCmds+1),
		// Whatever else is wrong with them, at whatever place.
		{p, {Op: ':', Text: "a"}, {Op: ':', Text: "a"}, {Op: 'z'}},
		{p, {Op: 'b', Text: "a"}, {Op: 'z'}},
		{p, {Op: 'w', Text: "a"}, {Op: 'w', Text: "b"}, {Op: 'w', Text: "c"}, {Op: 'w', Text: "d"}, {Op: 'w', Text: "e"}, {Op: '}'}},
		append(slices.Repeat([]api.Cmd{{Op: 'b', Text: "x"}}, api.MaxCmds), p),
	} {
		for _, o := range []api.Options{{}, {Quiet: true}, {Ere: true}} {
			wantRefused(t, l, o, 0, api.ErrForm)
		}
	}
	made(t, strings.Repeat("p;", api.MaxCmds), basic)
}

func TestLabelTwice(t *testing.T) {
	for _, c := range []struct {
		s  string
		at int
	}{
		{":a;:a", 1},
		{":a;p;:a", 2},
		{"p;:a;p;:a;:a", 3},
		{":a;:b;:b;:a", 2},
		{":a;:b;:a;:b", 2},
		{"b;t;:x;:y;:z;:y", 5},
		{"{:a;p};{:a;p}", 5},
		{":a;b a;:a", 2},
		{":abcdefgh;:abcdefgh", 1},
	} {
		wantFault(t, c.s, c.at, api.ErrLabel)
	}
	for _, s := range []string{":a;:A;:aa;:_", ":a;b a;b a;t a", "b a;b a;:a", "w a;w a;:a", ":abcdefgh;:abcdefg"} {
		made(t, s, basic)
	}
}

func TestLabelMissing(t *testing.T) {
	for _, c := range []struct {
		s  string
		at int
	}{
		{"b y", 0},
		{"t y", 0},
		{"p;t x;:y", 1},
		{":y;p;b Y", 2},
		{"b a;t b;b c;:a;:c", 1},
		{"b a;t b;b c;:a", 1},
		{"t c;b b;:b", 0},
		{"p;{p;{p;b no\n}}", 5},
		{":a;b aa", 1},
		{":aa;b a", 1},
		{":abcdefgh;b abcdefg", 1},
		// A text of another command is no label.
		{"w x;b x", 1},
		{"t x;a\\\nx\nb x", 0},
		{"b x;b x", 0},
		{"s/a/b/w x\nt x", 1},
	} {
		wantFault(t, c.s, c.at, api.ErrLabel)
	}
}

func TestStreamBeyond(t *testing.T) {
	for _, c := range []struct {
		s  string
		at int
	}{
		{"w a;w b;w c;w d;w e", 4},
		{"w a;w b;w c;w d;s/a/b/w e", 4},
		{"s/a/b/w a\ns/a/b/w b\ns/a/b/w c\ns/a/b/w d\ns/a/b/w e", 4},
		{"s/a/b/w a\nw b;s/a/b/w c\nw d;p;s/a/b/;w e", 6},
		{"w a;w b;w c;w d;w a;w e;w f", 5},
		{"w a;w a;w b;w b;w c;w c;w d;w d;w d;w c;w A", 10},
		{"w a;w b;w c;{w d;p;{1,3!w e\n}};w f", 7},
		{"b;w a;w b;w c;w d;:x;w x", 6},
	} {
		wantFault(t, c.s, c.at, api.ErrBig)
	}
	for _, s := range []string{"w a;w b;w c;w d", "w a;w b;w c;w d;w a;w b;w c;w d;s/a/b/w d\ns/a/b/", "s/a/b/w a\ns/a/b/w b\ns/a/b/w c\ns/a/b/w d", "w a;w b;w c;w d;b e;:e;:f;a\\\ng"} {
		if p := made(t, s, basic); len(p.Streams) != api.MaxStreams {
			t.Errorf("%q: %q", s, p.Streams)
		}
	}
}

func TestSeveralFaults(t *testing.T) {
	const full = "w a;w b;w c;w d;w e"
	for _, c := range []struct {
		s   string
		at  int
		err api.Errno
	}{
		// A label twice is told ahead of one that is missing, wherever they stand.
		{"b y;:a;:a", 2, api.ErrLabel},
		{"b y;:a;:a;:a", 2, api.ErrLabel},
		{":a;:a;b y", 1, api.ErrLabel},
		{"b a;t y;:a;b z;:a", 4, api.ErrLabel},
		// Both ahead of a stream too many.
		{full + ";b y", 5, api.ErrLabel},
		{"b y;" + full, 0, api.ErrLabel},
		{full + ";:a;:a", 6, api.ErrLabel},
		{":a;:a;" + full, 1, api.ErrLabel},
		{"b y;" + full + ";:a;:a", 7, api.ErrLabel},
		{full + ";:a;b a", 4, api.ErrBig},
	} {
		wantFault(t, c.s, c.at, c.err)
	}
}

// P10.2

func TestLoadTellsWhatReadTells(t *testing.T) {
	deep := strings.Repeat("{", api.MaxDeep+1) + strings.Repeat("}", api.MaxDeep+1)
	for _, s := range []string{"zz", "p;zz", "p p", "{", "}", "p;}", "{p", "b x y", ":", "w", "s/a/b", "s/a/b/gg", "/a", "/a/", "0p", "10000p", "1,2q", "a\\\nx\\", "y/ab/c/", "/[/p", "/[[:no:]]/p", "b y;}", ":a;:a;zz", "w a;w b;w c;w d;w e;{", deep, strings.Repeat("p;", api.MaxCmds+1), strings.Repeat(" ", api.MaxScript+1), "/" + strings.Repeat(`\(`, api.MaxDeep+1), "\x00", "p\xff"} {
		for _, o := range []api.Options{basic, extended} {
			l, at, err := read.Parse(s, o.Ere)
			p, gotAt, gotErr := Load(s, o)
			if err == api.OK || p != nil || gotAt != at || gotErr != err {
				t.Errorf("%q: %v, %d, %d; read tells %v, %d, %d", s, p, gotAt, gotErr, l, at, err)
			}
		}
	}
	for _, c := range []struct {
		s   string
		at  int
		err api.Errno
	}{{"p p", 2, api.ErrForm}, {strings.Repeat("{", api.MaxDeep+1), api.MaxDeep, api.ErrDeep}, {"p;b y;zz", 6, api.ErrForm}} {
		if p, at, err := Load(c.s, basic); p != nil || at != c.at || err != c.err {
			t.Errorf("%q: %v, %d, %d", c.s, p, at, err)
		}
	}
}

func TestText(t *testing.T) {
	for _, c := range []struct {
		s, want string
		o       api.Options
	}{
		{"", "", basic},
		{" ;\n; ", "", basic},
		{"p", "p\n", basic},
		{"1{b x};p;:x", "1{\nb x\n}\np\n: x\n", basic},
		{"  1, 3 ! { p ; }", "1,3!{\np\n}\n", basic},
		{"s/a/b/2pgw f", "s/a/b/gp2w f\n", basic},
		{"a\\\nx\\\ny", "a\\\nx\\\ny\n", basic},
		{`/a\(b\)*/p`, "/a\\(b\\)*/p\n", basic},
		{`/a(b)*/p`, "/a(b)*/p\n", extended},
		{`/a(b)+|c/p`, "/a(b)+|c/p\n", extended},
	} {
		for _, quiet := range []bool{false, true} {
			o := c.o
			o.Quiet = quiet
			p := made(t, c.s, o)
			if got := Text(p); got != c.want || got != read.Print(p.Cmds, o.Ere) {
				t.Errorf("%q: %q, want %q", c.s, got, c.want)
			}
		}
	}
}

func TestStream(t *testing.T) {
	for _, s := range []string{"", "p", "w a", "w d;w c;w b;w a", "w b;w a;w b;s/a/b/w Z\nw a", ":x;b x;a\\\ny"} {
		p := made(t, s, basic)
		for i, name := range p.Streams {
			if got := Stream(p, name); got != i {
				t.Errorf("%q, %q: %d, want %d", s, name, got, i)
			}
		}
		for _, name := range []string{"", " ", "x", "y", "A", "aa", "a ", " a", "a\n", "a\x00", "\xff", "stdout", "0", strings.Repeat("a", 1<<16)} {
			if got := Stream(p, name); got != -1 {
				t.Errorf("%q, %q: %d", s, name, got)
			}
		}
	}
	p := made(t, "w d;w c;w d;w b;s/a/b/w a", basic)
	for i, name := range []string{"d", "c", "b", "a"} {
		if got := Stream(p, name); got != i {
			t.Errorf("%q: %d", name, got)
		}
	}
}
