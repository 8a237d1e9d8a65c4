package prog

import (
	"math"
	"math/rand"
	"slices"
	"strings"
	"testing"
	"unsafe"

	"gloss/api"
	"gloss/read"
)

// R1

// wantEnd asks of any text that it is refused, or loaded as what is made again.
func wantEnd(t *testing.T, s string) {
	t.Helper()
	for _, o := range []api.Options{basic, extended} {
		l, where, fault := read.Parse(s, o.Ere)
		p, at, err := Load(s, o)
		q, _, want := Make(l, o)
		switch {
		case fault != api.OK:
			if p != nil || at != where || err != fault {
				t.Errorf("%q: %v, %d, %d", s, p, at, err)
			}
		case want != api.OK:
			if p != nil || q != nil || at != 0 || err != want {
				t.Errorf("%q: %v, %d, %d", s, p, at, err)
			}
		case p == nil || at != 0 || err != api.OK || !same(p, q):
			t.Errorf("%q: %v, %d, %d", s, p, at, err)
		case len(Text(p)) <= api.MaxScript:
			wantAgain(t, p)
		}
		if p == nil {
			continue
		}
		for i, name := range p.Streams {
			if Stream(p, name) != i {
				t.Errorf("%q: %q", s, name)
			}
		}
		if Stream(p, s) >= 0 && !slices.Contains(p.Streams, s) {
			t.Errorf("%q is no stream", s)
		}
	}
}

func TestAnyBytes(t *testing.T) {
	r := rand.New(rand.NewSource(1))
	for range 10000 {
		l := make([]byte, r.Intn(60))
		for i := range l {
			l[i] = byte(r.Intn(256))
		}
		wantEnd(t, string(l))
	}
	// Those of which scripts with braces, labels and streams are made.
	parts := []string{"{", "}", ";", "\n", " ", ":a", ":b", "b a", "t b", "b", "t", "w a", "w b", "w c", "w d", "w e", "s/a/b/", "1", "3,", "$", "!", "=", "p", "/x/"}
	for range 50000 {
		var b strings.Builder
		for range r.Intn(14) {
			b.WriteString(parts[r.Intn(len(parts))])
			if r.Intn(2) == 0 {
				b.WriteByte(';')
			}
		}
		wantEnd(t, b.String())
	}
	for _, s := range parts {
		for _, n := range []int{1, 2, 6, 7, 39, 40, 41, 1000, api.MaxScript, 1 << 16} {
			wantEnd(t, strings.Repeat(s, n))
			wantEnd(t, strings.Repeat(s+";", n))
			wantEnd(t, strings.Repeat(s+"{", n)+strings.Repeat("}", n))
		}
	}
}

// endless is an expression that is in itself.
func endless() api.Rx {
	kids := make([]api.Rx, 2)
	kids[1] = api.Rx{Kind: api.RCat, Kids: kids}
	kids[0] = kids[1]
	return kids[1]
}

func TestAnyLists(t *testing.T) {
	long := strings.Repeat("x", 1<<20)
	deep := api.Rx{Kind: api.RSet}
	for range 1 << 16 {
		deep = api.Rx{Kind: api.RGroup, N: 1, Kids: []api.Rx{deep}}
	}
	wide := api.Rx{Kind: api.RCat, Kids: make([]api.Rx, 1<<16)}
	for _, r := range []api.Rx{endless(), deep, wide, {Kind: -1}, {Kind: math.MaxInt}, {Kind: api.RGroup}, {Kind: api.RRep, Min: math.MinInt, Max: math.MaxInt}} {
		wantRefused(t, []api.Cmd{{Op: 'p', A: api.Addr{Kind: api.AMatch, Rx: r}}}, basic, 0, api.ErrForm)
		wantRefused(t, []api.Cmd{{Op: 'p', A: api.Addr{Kind: api.ALast}, B: api.Addr{Kind: api.AMatch, Rx: r}}}, basic, 0, api.ErrForm)
		wantRefused(t, []api.Cmd{{Op: 's', Rx: r}}, extended, 0, api.ErrForm)
	}
	for _, n := range []int{-1, 4, math.MinInt, math.MaxInt} {
		wantRefused(t, []api.Cmd{{Op: 'p', A: api.Addr{Kind: n}}}, basic, 0, api.ErrForm)
		wantRefused(t, []api.Cmd{{Op: 'p', A: api.Addr{Kind: api.ALine, Line: n &^ 4}}}, basic, 0, api.ErrForm)
		wantRefused(t, []api.Cmd{{Op: 's', Rx: api.Rx{Kind: api.RSet, Set: api.Set{1: 2}}, Nth: n &^ 4 * 100}, {Op: 'z'}}, basic, 0, api.ErrForm)
	}
	for op := range 256 {
		c := api.Cmd{Op: byte(op), Text: long}
		wantRefused(t, []api.Cmd{c}, basic, 0, api.ErrForm)
		wantRefused(t, []api.Cmd{{Op: byte(op), Y: long, Z: long}}, basic, 0, api.ErrForm)
		wantPlain(t, []api.Cmd{{Op: byte(op)}}, basic)
		wantPlain(t, []api.Cmd{{Op: byte(op), Text: "x"}}, extended)
		wantPlain(t, []api.Cmd{{Op: byte(op), Text: "x"}, {Op: ':', Text: "x"}}, basic)
	}
	wantRefused(t, make([]api.Cmd, 1<<16), basic, 0, api.ErrForm)
	wantRefused(t, slices.Repeat([]api.Cmd{{Op: '{'}}, 1<<16), basic, 0, api.ErrForm)
	// A list may be right, and its text longer than a script's may be.
	l := slices.Repeat([]api.Cmd{{Op: 'a', Text: long[:api.MaxText]}}, api.MaxCmds)
	p, at, err := Make(l, basic)
	if err != api.OK || at != 0 || len(Text(p)) != api.MaxCmds*(api.MaxText+4) {
		t.Fatal(at, err)
	}
	if q, _, err := Load(Text(p), basic); q != nil || err != api.ErrBig {
		t.Error(q, err)
	}
}

func TestProgramsThatWereTurned(t *testing.T) {
	for _, p := range []*api.Prog{nil, {}, {Cmds: []api.Cmd{{Op: 'z'}}}, {Cmds: make([]api.Cmd, 1000)}, {Streams: []string{""}, Jump: []int{99}}} {
		if got := Text(p); got != "" {
			t.Errorf("%q", got)
		}
		if got := Stream(p, "a"); got != -1 {
			t.Error(got)
		}
	}
}

// R2

// spared is a right list whose lists have room behind them, and all that stands in them and there.
func spared() ([]api.Cmd, []api.Piece, []api.Rx) {
	set := api.Rx{Kind: api.RSet, Set: api.Set{1: 1 << 33}}
	star := api.Rx{Kind: api.RRep, Max: -1, Kids: []api.Rx{set}}
	group := api.Rx{Kind: api.RGroup, N: 1, Kids: []api.Rx{set}}
	kids := []api.Rx{group, star, {Kind: 77}, {Kind: api.RCat}}
	pieces := []api.Piece{{Group: -1, Lit: "x&"}, {Group: 1}, {Group: -1, Lit: "spare"}, {Group: -5}}
	r := api.Rx{Kind: api.RCat, Kids: kids[:2]}
	c := api.Cmd{Op: 's', A: api.Addr{Kind: api.AMatch, Rx: r}, B: api.Addr{Kind: api.ALast}, Rx: r, Tpl: pieces[:2], Text: "stream"}
	return []api.Cmd{{Op: '{'}, c, {Op: 'b', Text: "x"}, {Op: '}'}, {Op: ':', Text: "x"}, {Op: ':', Text: "x"}, {Op: 'z'}}, pieces, kids
}

func TestWhatIsHandedInStaysAsItWas(t *testing.T) {
	l, pieces, kids := spared()
	want, wantPieces, wantKids := spared()
	const text = "{\n/(a)a*/,$s/(a)a*/x\\&\\1/w stream\nb x\n}\n: x\n"
	p, at, err := Make(l[:5], extended)
	if err != api.OK || at != 0 || Text(p) != text || !slices.Equal(p.Jump, []int{3, -1, 4, -1, -1}) || !slices.Equal(p.Streams, []string{"stream"}) {
		t.Fatal(p, at, err)
	}
	wantRefused(t, l[:6], extended, 5, api.ErrLabel)
	wantRefused(t, l[:4], extended, 2, api.ErrLabel)
	wantRefused(t, l[:3], extended, 0, api.ErrForm)
	wantRefused(t, l, extended, 0, api.ErrForm)
	if !read.Same(l, want) || !slices.Equal(pieces, wantPieces) || !slices.EqualFunc(kids, wantKids, sameRx) {
		t.Error("what was handed in is another now")
	}
	before, _, _ := Make(want[:5], extended)
	Text(p)
	Stream(p, "stream")
	Stream(p, "none")
	wantAgain(t, p)
	if !same(p, before) {
		t.Error("a program was turned by being asked")
	}
}

func sameRx(a, b api.Rx) bool {
	return a.Kind == b.Kind && a.Min == b.Min && a.Max == b.Max && a.N == b.N && a.Set == b.Set && slices.EqualFunc(a.Kids, b.Kids, sameRx)
}

// spoil writes over all that a list holds, its spare room too.
func spoil(l []api.Cmd) {
	l = l[:cap(l)]
	for i := range l {
		for _, r := range []*api.Rx{&l[i].A.Rx, &l[i].B.Rx, &l[i].Rx} {
			spoilRx(r)
		}
		pieces := l[i].Tpl[:cap(l[i].Tpl)]
		for j := range pieces {
			pieces[j] = api.Piece{Group: 77}
		}
		l[i] = api.Cmd{Op: 'z'}
	}
}

func spoilRx(r *api.Rx) {
	kids := r.Kids[:cap(r.Kids)]
	for i := range kids {
		spoilRx(&kids[i])
		kids[i] = api.Rx{Kind: -1}
	}
}

// spoilProg writes over all that a program holds.
func spoilProg(p *api.Prog) {
	spoil(p.Cmds)
	jump, streams := p.Jump[:cap(p.Jump)], p.Streams[:cap(p.Streams)]
	for i := range jump {
		jump[i] = 77
	}
	for i := range streams {
		streams[i] = "spoilt"
	}
	*p = api.Prog{Top: -1}
}

// scripts hold lists of all kinds: expressions, replacements, texts, streams.
func scripts() []string {
	return []string{
		"/a\\(b\\)*[cd]/,/e\\(f\\)/s/\\(a\\)\\(b\\)/x\\2y&\\1z/gp3w out\nw more",
		"1,3{b x;y/abc/def/;:x\n};i\\\ntext\\\nof lines\n$!t x;w f;w g;s/a/b/w f",
		"/a/{/a/{/a/s/a/a/;}};/a/,/a/p;=;:a;b a;t a",
		"p", "",
	}
}

func TestProgramsShareNothing(t *testing.T) {
	for _, s := range scripts() {
		l := list(t, s, basic)
		p, _, _ := Make(l, basic)
		want := made(t, s, basic)
		again, _, _ := Make(l, basic)
		loaded, _, _ := Load(s, basic)
		// What is turned in the list behind the call.
		spoil(l)
		if !same(p, want) || !same(again, want) {
			t.Fatalf("%q: the program hangs on the list", s)
		}
		// What is turned in another program of the same list, of the same script.
		spoilProg(p)
		if !same(again, want) {
			t.Fatalf("%q: two programs share memory", s)
		}
		spoilProg(loaded)
		spoilProg(again)
		if later := made(t, s, basic); !same(later, want) {
			t.Fatalf("%q: a later answer hangs on an earlier one", s)
		}
	}
}

// No list of a program reaches into another one of it.
func TestListsOfAProgramShareNothing(t *testing.T) {
	for _, s := range scripts() {
		p, want := made(t, s, basic), made(t, s, basic)
		for i := range p.Cmds {
			spoil(p.Cmds[i : i+1 : i+1])
			if !read.Same(p.Cmds[i+1:], want.Cmds[i+1:]) {
				t.Fatalf("%q: two commands share memory", s)
			}
		}
		if !slices.Equal(p.Streams, want.Streams) || !slices.Equal(p.Jump, want.Jump) {
			t.Fatalf("%q: %v", s, p)
		}
	}
	p := made(t, "/ab/,/ab/s/ab/x&/", basic)
	spoilRx(&p.Cmds[0].A.Rx)
	if Text(p) != "" {
		t.Error(Text(p))
	}
	p.Cmds[0].A.Rx = made(t, "/ab/p", basic).Cmds[0].A.Rx
	if Text(p) != "/ab/,/ab/s/ab/x&/\n" {
		t.Error("two expressions share memory")
	}
}

// One list of kids in the list that is handed in, several in the program.
func TestListsThatShareAreCopiedApart(t *testing.T) {
	l, _, _ := spared()
	p, _, err := Make([]api.Cmd{l[1], l[1]}, extended)
	if err != api.OK {
		t.Fatal(err)
	}
	want := Text(p)
	spoil(p.Cmds[:1:1])
	p.Cmds[0] = l[1]
	if Text(p) != want {
		t.Error(Text(p))
	}
	spoilRx(&p.Cmds[1].A.Rx)
	p.Cmds[1].A = l[1].A
	if Text(p) != want {
		t.Error(Text(p))
	}
}

// textsOf are all texts in a program.
func textsOf(p *api.Prog) []string {
	all := slices.Clone(p.Streams)
	for _, c := range p.Cmds {
		all = append(all, c.Text, c.Y, c.Z)
		for _, piece := range c.Tpl {
			all = append(all, piece.Lit)
		}
	}
	return all
}

// shares tells whether a text lies in the memory of another one.
func shares(a, b string) bool {
	if a == "" || b == "" {
		return false
	}
	at, from := uintptr(unsafe.Pointer(unsafe.StringData(a))), uintptr(unsafe.Pointer(unsafe.StringData(b)))
	return from < at+uintptr(len(a)) && at < from+uintptr(len(b))
}

func TestTextsAreNewMemory(t *testing.T) {
	for _, s := range scripts() {
		s = strings.Clone(s)
		l := list(t, s, basic)
		given := append(textsOf(&api.Prog{Cmds: l}), s)
		made, _, _ := Make(l, basic)
		loaded, _, _ := Load(s, basic)
		for _, p := range []*api.Prog{made, loaded} {
			given = append(given, Text(p))
			texts := textsOf(p)
			for i, text := range texts {
				for _, other := range append(given, texts[:i]...) {
					if shares(text, other) {
						t.Errorf("%q lies in %q", text, other)
					}
				}
			}
			given = append(given, texts...)
		}
	}
}
