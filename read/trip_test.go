package read

import (
	"math/rand"
	"strings"
	"testing"

	"gloss/api"
	"gloss/bset"
	"gloss/cmd"
)

// P9.4

// wantBack asks that what l prints to is read as l, if it isn't too long; then it is refused for that.
func wantBack(t *testing.T, l []api.Cmd, ere bool) {
	t.Helper()
	s := Print(l, ere)
	got, where, err := Parse(s, ere)
	if len(s) > api.MaxScript {
		if got != nil || where < 0 || where > len(s) || err != api.ErrBig {
			t.Errorf("%d bytes: %d, %d", len(s), where, err)
		}
		return
	}
	if err != api.OK || where != 0 || !Same(got, l) {
		t.Errorf("%v: %+v prints to %q, which is read as %+v, %d, %d", ere, l, s, got, where, err)
	}
	if again := Print(got, ere); again != s {
		t.Errorf("%v: %q prints to %q", ere, s, again)
	}
}

// places are ways of standing somewhere.
func places() []func(c *api.Cmd) {
	not := func(s string) api.Rx { return api.Rx{Kind: api.RSet, Set: bset.Not(set(s).Set)} }
	var all []func(c *api.Cmd)
	l := []api.Addr{none(), line(1), line(9999), last()}
	for _, r := range []api.Rx{set("/"), set("a/"), set("]/"), set("[/"), set("^-/"), set("^-"), set("[:/"), set("\\/"), not("/"), not("]/"), not("^"), not("\n/"), set("\n"), set("\\"), set("["), set("]"), row(set("["), set("/"), set("]")), row(set("\\"), set("/")), group(1, set("/")), either(set("/"), row()), star(set("[/")), {Kind: api.RBegin}, {Kind: api.REnd}} {
		l = append(l, match(r))
	}
	for _, a := range l {
		for _, b := range l {
			all = append(all, func(c *api.Cmd) { c.A, c.B = a, b }, func(c *api.Cmd) { c.A, c.B, c.Not = b, a, true })
		}
	}
	return all
}

// texts are texts that could be taken for something else.
func texts() []string {
	return []string{"", "a", "w", "g", "p", "2", "x_9", as(8), " ", " a ", "\n", "\n\n", "\\", "\\\\", "\\\n", "\n\\", "a\nb", "a\\nb", "}", "p;p", "/", "s/a/b/", "\x00\xff", as(api.MaxText)}
}

// pieces are replacements, of which some name groups.
func pieces() [][]api.Piece {
	return [][]api.Piece{nil, {ref(0)}, {lit("/")}, {lit("\\")}, {lit("\\/")}, {lit("\n")}, {lit("n&1")}, {lit("[/]")}, {ref(1)}, {ref(1), lit("2")}, {ref(0), lit("/"), ref(0)}, {lit("b/g")}, {lit(" ;}\x00\xff")}}
}

// many are right commands of all kinds.
func many(ere bool) []api.Cmd {
	var l []api.Cmd
	add := func(c api.Cmd) {
		if cmd.Right(c, ere) {
			l = append(l, c)
		}
	}
	for _, op := range []byte(ops) {
		for _, change := range places() {
			c := base(op)
			change(&c)
			add(c)
			if op == 's' {
				c.Rx = c.A.Rx
				add(c)
			}
		}
		for _, s := range texts() {
			add(texted(op, s))
			add(api.Cmd{Op: op, A: line(12), Not: true, Text: s})
		}
	}
	for _, tpl := range pieces() {
		for _, r := range []api.Rx{set("a"), set("[/"), group(1, set("/"))} {
			for n := range 100 {
				add(api.Cmd{Op: 's', Rx: r, Tpl: tpl, Nth: n, Global: n%2 == 0, Show: n%3 == 0, Text: texts()[n%8]})
			}
		}
	}
	for _, y := range []string{"", "/", "\\", "\n", "n", "\\n", "/\n\\n", "[", "a;}", "\x00\xff"} {
		for _, z := range []string{"", "/", "\\", "\n", "n", "//", "\\\\", "nn", "\n\\n/", "]", "{ \t", "\xff\n"} {
			add(swap(y, z))
			add(api.Cmd{Op: 'y', A: last(), Not: true, Y: y, Z: z})
		}
	}
	return l
}

func TestPrintedCommandsAreParsed(t *testing.T) {
	for _, ere := range []bool{false, true} {
		all := many(ere)
		if len(all) < 10000 {
			t.Error(len(all))
		}
		for _, c := range all {
			l := list(c)
			switch c.Op {
			case '{':
				l = append(l, base('}'))
			case '}':
				l = append(opsOf("{"), c)
			}
			wantBack(t, l, ere)
			wantBack(t, append(l, base('p')), ere)
		}
	}
}

// grown is a right list, made by chance of all.
func grown(r *rand.Rand, all []api.Cmd) []api.Cmd {
	var l []api.Cmd
	open := 0
	n, wide := r.Intn(api.MaxCmds+1), r.Intn(3) == 0
	for len(l)+open < n {
		c := all[r.Intn(len(all))]
		switch {
		case wide && r.Intn(2) == 0:
			c = texted('a', as(r.Intn(api.MaxText+1)))
		case r.Intn(4) == 0:
			c = base('{')
		case r.Intn(4) == 0:
			c = base('}')
		}
		if c.Op == '{' && (open == api.MaxDeep || len(l)+open+2 > n) || c.Op == '}' && open == 0 {
			continue
		}
		open += strings.Count("{", string([]byte{c.Op})) - strings.Count("}", string([]byte{c.Op}))
		l = append(l, c)
	}
	return append(l, opsOf(times(open, "}"))...)
}

func TestPrintedListsAreParsed(t *testing.T) {
	r := rand.New(rand.NewSource(9))
	for _, ere := range []bool{false, true} {
		all := many(ere)
		short, long, full, deep := 0, 0, 0, 0
		for range 2000 {
			l := grown(r, all)
			wantRightAs(t, l, ere)
			wantBack(t, l, ere)
			s := Print(l, ere)
			if len(s) <= api.MaxScript {
				short++
			} else {
				long++
			}
			if len(l) == api.MaxCmds {
				full++
			}
			if strings.Contains(Print(l, ere), times(3, "{\n")) {
				deep++
			}
		}
		if short < 1000 || long < 30 || full < 30 || deep < 100 {
			t.Error(short, long, full, deep)
		}
	}
}

func wantRightAs(t *testing.T, l []api.Cmd, ere bool) {
	t.Helper()
	if !Right(l, ere) {
		t.Errorf("%v: not right: %+v", ere, l)
	}
}

func TestPrintedListsOfTheMostBytes(t *testing.T) {
	// A list whose text has n bytes.
	of := func(n int) []api.Cmd {
		var l []api.Cmd
		for n > 300 {
			l = append(l, texted('a', as(200)))
			n -= 204
		}
		return append(l, texted('c', as(n-4)))
	}
	for n := api.MaxScript - 3; n < api.MaxScript+4; n++ {
		l := of(n)
		if s := Print(l, true); len(s) != n || !Right(l, true) {
			t.Fatal(n, len(s))
		}
		wantBack(t, l, false)
		wantBack(t, l, true)
		if got, _, err := Parse(Print(l, false), false); (err == api.OK) != (n <= api.MaxScript) || len(got) != 0 && n > api.MaxScript {
			t.Error(n, err)
		}
	}
	wantBack(t, opsOf(times(api.MaxCmds, "p")), false)
	wantBack(t, opsOf(times(6, "{")+times(28, "p")+times(6, "}")), true)
	wantBack(t, nil, false)
}

// What is read needn't be what is printed: a text prints to a text that prints to itself.
func TestReadTextsPrintToOneText(t *testing.T) {
	for s, want := range map[string]string{
		"1,3{p;s/a/b/g}": "1,3{\np\ns/a/b/g\n}\n", " 0012, \t$ ! p ;": "12,$!p\n", "bx;t\ty;:z;w\tf": "b x\nt y\n: z\nw f\n", "s/[/]/\\//2pg": "s/\\//\\//gp2\n", "s/a/b/01w\tx": "s/a/b/1w x\n", "a\\\n\\x\\\\": "a\\\nx\\\\\n", "/[c-a]/p": "", "/[a-c]/p": "/[abc]/p\n", "y/\\n/\\//": "y/\\n/\\//\n", ";;\n": "",
	} {
		l, _, _ := Parse(s, false)
		if got := Print(l, false); got != want {
			t.Errorf("%q prints to %q, not %q", s, got, want)
		}
		wantBack(t, l, false)
	}
}
