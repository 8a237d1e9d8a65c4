package prog

import (
	"math/rand"
	"slices"
	"testing"

	"gloss/api"
	"gloss/read"
)

// A plain working out of what Make tells: by tables of all names, and braces by how deep each command stands.

// firsts is of each name the place at which it stands first, and the place of the first one that stands again.
func firsts(names []string) (map[string]int, int) {
	at, again := map[string]int{}, -1
	for i := len(names) - 1; i >= 0; i-- {
		if names[i] == "" {
			continue
		}
		if j := slices.Index(names[:i], names[i]); j >= 0 {
			again = i
			continue
		}
		at[names[i]] = i
	}
	return at, again
}

// namesOf is of each command the Text, if its Op is one of ops; else "".
func namesOf(l []api.Cmd, ops string) []string {
	names := make([]string, len(l))
	for i, c := range l {
		for _, op := range []byte(ops) {
			if c.Op == op {
				names[i] = c.Text
			}
		}
	}
	return names
}

// depths is of each command how many braces are open ahead of it; of a } without its own.
func depths(l []api.Cmd) []int {
	d := make([]int, len(l))
	open := 0
	for i, c := range l {
		if c.Op == '}' {
			open--
		}
		d[i] = open
		if c.Op == '{' {
			open++
		}
	}
	return d
}

// plainMake is what Make tells.
func plainMake(l []api.Cmd, o api.Options) (*api.Prog, int, api.Errno) {
	if !read.Right(l, o.Ere) {
		return nil, 0, api.ErrForm
	}
	labels, again := firsts(namesOf(l, ":"))
	if again >= 0 {
		return nil, again, api.ErrLabel
	}
	for i, name := range namesOf(l, "bt") {
		if _, ok := labels[name]; name != "" && !ok {
			return nil, i, api.ErrLabel
		}
	}
	p := &api.Prog{Opts: o, Cmds: l, Jump: slices.Repeat([]int{-1}, len(l))}
	places, _ := firsts(namesOf(l, "ws"))
	for i, name := range namesOf(l, "ws") {
		if at, ok := places[name]; ok && at == i {
			p.Streams = append(p.Streams, name)
		}
		if len(p.Streams) > api.MaxStreams {
			return nil, i, api.ErrBig
		}
	}
	d := depths(l)
	for i, c := range l {
		switch c.Op {
		case '{':
			p.Jump[i] = i + 1 + slices.Index(d[i+1:], d[i])
		case 'b', 't':
			p.Jump[i] = len(l)
			if c.Text != "" {
				p.Jump[i] = labels[c.Text]
			}
		case '=':
			p.Lines = true
		}
		for _, a := range []api.Addr{c.A, c.B} {
			if a.Kind == api.ALine && a.Line > p.Top {
				p.Top = a.Line
			}
		}
	}
	return p, 0, api.OK
}

// wantPlain asks that Make tells what plainMake tells.
func wantPlain(t *testing.T, l []api.Cmd, o api.Options) api.Errno {
	t.Helper()
	want, wantAt, wantErr := plainMake(l, o)
	got, at, err := Make(l, o)
	if at != wantAt || err != wantErr || (got == nil) != (want == nil) || got != nil && !same(got, want) {
		t.Fatalf("%q: %+v, %d, %d; want %+v, %d, %d", read.Print(l, o.Ere), got, at, err, want, wantAt, wantErr)
	}
	return err
}

// single is one command; of a { and } too, which no script has alone.
func single(t *testing.T, s string) api.Cmd {
	t.Helper()
	switch s {
	case "}":
		return api.Cmd{Op: '}'}
	case "{", "3{":
		return list(t, s+"}", basic)[0]
	}
	return list(t, s, basic)[0]
}

func singles(t *testing.T, all ...string) []api.Cmd {
	t.Helper()
	var l []api.Cmd
	for _, s := range all {
		l = append(l, single(t, s))
	}
	return l
}

// each hands out all lists of at most n of the commands; no list is kept.
func each(cmds []api.Cmd, n int, do func(l []api.Cmd)) {
	l := make([]api.Cmd, 0, n)
	var further func()
	further = func() {
		do(l)
		if len(l) == n {
			return
		}
		for _, c := range cmds {
			l = append(l, c)
			further()
			l = l[:len(l)-1]
		}
	}
	further()
}

func TestAllShortLists(t *testing.T) {
	for _, c := range []struct {
		cmds []api.Cmd
		n    int
	}{
		{singles(t, "{", "}", "b x", ":x", "=", "t"), 6},
		{singles(t, "{", "}"), 12},
		{singles(t, ":x", ":y", "b x", "t y", "b", "p"), 6},
		{singles(t, "w a", "w b", "w c", "w d", "w e", "s/a/b/w a", "s/a/b/w f"), 6},
		{singles(t, "{", "}", ":x", "b y", "w a", "s/x/y/", "2,9p", "$,4p"), 5},
		{append(singles(t, "p", "b x", ":x"), api.Cmd{Op: 'z'}, api.Cmd{Op: 'w'}), 5},
	} {
		told := map[api.Errno]int{}
		each(c.cmds, c.n, func(l []api.Cmd) { told[wantPlain(t, l, basic)]++ })
		if told[api.OK] < 10 || len(told) < 2 {
			t.Error(told)
		}
	}
}

func TestListsByChance(t *testing.T) {
	r := rand.New(rand.NewSource(10))
	streams := singles(t, "w a", "w b", "w c", "w d", "w e", "s/a/b/w a", "s/a/b/w d", "s/a/b/", "w f")
	others := singles(t, "{", "3{", "}", "}", ":a", ":b", ":c", "b a", "t b", "b c", "b", "t", "=", "7=", "3,8p", "8,3d", "$!n", "/x/,100p", "a\\\nx")
	told := map[api.Errno]int{}
	for range 60000 {
		l := make([]api.Cmd, r.Intn(api.MaxCmds+2))
		// From a few kinds alone, that not all lists have all faults.
		few := make([]api.Cmd, 1+r.Intn(9))
		for i := range few {
			from := streams
			if i%3 > 0 && r.Intn(2) == 0 {
				from = others
			}
			few[i] = from[r.Intn(len(from))]
		}
		for i := range l {
			l[i] = few[r.Intn(len(few))]
		}
		told[wantPlain(t, closed(l), api.Options{Quiet: r.Intn(2) == 0, Ere: r.Intn(2) == 0})]++
	}
	for _, err := range []api.Errno{api.OK, api.ErrForm, api.ErrLabel, api.ErrBig} {
		if told[err] < 100 {
			t.Error(told)
		}
	}
}

// closed is l with braces that fit: a } without its { is a p, and a { that is too deep, too; the open ones are closed.
func closed(l []api.Cmd) []api.Cmd {
	var m []api.Cmd
	open := 0
	for _, c := range l {
		switch {
		case c.Op == '}' && open > 0:
			open--
		case c.Op == '{' && open < api.MaxDeep:
			open++
		case c.Op == '{' || c.Op == '}':
			c = api.Cmd{Op: 'p'}
		}
		m = append(m, c)
	}
	for range open {
		m = append(m, api.Cmd{Op: '}'})
	}
	return m
}

func TestScriptsByChanceAreMadeAgain(t *testing.T) {
	r := rand.New(rand.NewSource(3))
	all := singles(t, "{", "3{", "}", ":a", "b a", "t b", "b", "w a", "w b", "w c", "s/a*/b&/w a", "s/a/b/w d", "s/a[/]b/\\//gp3", "=", "7=", "3,8p", "8,3!d", "$!n", "/x\\/y/,100p", "a\\\nx\\\\\\\ny", "y/a\\/\\n/bcd/", "/\\(a\\)\\1/i\\\n")
	done := 0
	for range 20000 {
		l := make([]api.Cmd, r.Intn(12))
		for i := range l {
			l[i] = all[r.Intn(len(all))]
		}
		for _, o := range []api.Options{basic, extended} {
			if p, _, err := Make(closed(l), o); err == api.OK {
				wantAgain(t, p)
				done++
			}
		}
	}
	if done < 5000 {
		t.Error(done)
	}
}
