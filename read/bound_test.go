package read

import (
	"math"
	"math/rand"
	"slices"
	"strings"
	"testing"
	"unsafe"

	"gloss/api"
	"gloss/rx"
)

// R1

// wantEnd asks of any text that it is refused at a byte, or read as what is right.
func wantEnd(t *testing.T, s string) {
	t.Helper()
	for _, ere := range []bool{false, true} {
		l, where, err := Parse(s, ere)
		switch err {
		case api.OK:
			if where != 0 || !Right(l, ere) {
				t.Errorf("%q, %v: %+v, %d", s, ere, l, where)
			}
			wantBack(t, l, ere)
		case api.ErrForm, api.ErrDeep, api.ErrBig:
			if l != nil || where < 0 || where > len(s) {
				t.Errorf("%q, %v: %+v, %d, %d", s, ere, l, where, err)
			}
		default:
			t.Errorf("%q, %v: %d", s, ere, err)
		}
	}
}

func TestAnyBytes(t *testing.T) {
	r := rand.New(rand.NewSource(1))
	for range 20000 {
		l := make([]byte, r.Intn(60))
		for i := range l {
			l[i] = byte(r.Intn(256))
		}
		wantEnd(t, string(l))
	}
	// Those of which scripts are made.
	signs := " \n;{}1,$!/\\[]^:*()absgpwyx2"
	for range 100000 {
		l := make([]byte, r.Intn(20))
		for i := range l {
			l[i] = signs[r.Intn(len(signs))]
		}
		wantEnd(t, string(l))
	}
	for b := range 256 {
		s := string([]byte{byte(b)})
		for _, n := range []int{1, 2, 3, 100, api.MaxScript, api.MaxScript + 1, 1 << 16} {
			wantEnd(t, times(n, s))
			wantEnd(t, "/"+times(n, s))
			wantEnd(t, "s/a/"+times(n, s))
			wantEnd(t, "y/a/"+times(n, s))
			wantEnd(t, "a\\\n"+times(n, s))
			wantEnd(t, "b "+times(n, s))
		}
	}
}

func TestTextsThatAreCut(t *testing.T) {
	for _, s := range scripts() {
		for i := range len(s) + 1 {
			for j := i; j <= len(s); j++ {
				wantEnd(t, s[i:j])
			}
			for b := range 256 {
				wantEnd(t, s[:i]+string([]byte{byte(b)})+s[i:])
			}
		}
	}
}

func TestLongTextsWithoutAnEnd(t *testing.T) {
	for _, s := range []string{"[:", "/[", "/[:", "/[[:", "s/[", "[[:a", "\\", "/\\", "y/", "{", "{}", "}", "1", "1,", "!", "//", "s///", "/[[:/:]", "p;", "a\\\n", "\\(", "(", "[^]", "[]", "[[", ":]", "[:]"} {
		for _, ahead := range []string{"", "/", "/[", "/[[", "/[[:", "s/", "s/[", "s/a/", "y/", "y/a/", "a\\\n", "{"} {
			text := ahead + times(api.MaxScript+1, s)
			wantEnd(t, text[:api.MaxScript])
			wantEnd(t, text[:api.MaxScript-1])
			wantEnd(t, text[:api.MaxScript+1])
			wantEnd(t, text)
		}
	}
}

// endless is an expression that is in itself.
func endless() api.Rx {
	kids := []api.Rx{set("a"), {}}
	kids[1] = group(1, set("a"))
	kids[1].Kids = kids[1:]
	return kids[1]
}

func TestListsThatArentRight(t *testing.T) {
	deep := set("a")
	for range 1 << 16 {
		deep = group(1, deep)
	}
	for _, r := range []api.Rx{endless(), deep, row(slices.Repeat([]api.Rx{set("a")}, 1<<16)...), {}, {Kind: -1}, {Kind: math.MaxInt}} {
		wantRight(t, false, list(put(r)))
		wantRight(t, false, list(base('p'), at('p', match(r), none(), false)))
		wantRight(t, false, list(at('{', line(1), match(r), false), base('}')))
		if Same(list(put(r)), opsOf("s")) || Same(opsOf("p"), list(put(r))) {
			t.Error("same")
		}
	}
	for _, n := range []int{-1, math.MinInt, math.MaxInt, 1 << 32, 10000} {
		wantRight(t, false, list(flagged(false, false, n, "")))
		wantRight(t, false, list(at('p', line(n), none(), false)))
		wantRight(t, false, list(at('p', api.Addr{Kind: n}, none(), false)))
		wantRight(t, false, list(put(set("a"), ref(n))))
	}
	long := times(1<<16, "a\n\\/")
	for _, op := range []byte(ops) {
		wantRight(t, false, list(texted(op, long)))
		wantRight(t, false, list(api.Cmd{Op: op, Y: long, Z: long}))
	}
	for op := range 256 {
		if strings.IndexByte(ops, byte(op)) < 0 {
			wantRight(t, false, opsOf(string([]byte{byte(op)})))
		}
	}
	// No limit is set to how many pieces there are, but to the bytes that are read.
	l := list(put(set("a"), slices.Repeat([]api.Piece{ref(0)}, 10000)...))
	wantRight(t, true, l)
	wantBack(t, l, false)
}

// R2

// spared is a right list whose lists have room behind them, and all that stands in them and there.
func spared() ([]api.Cmd, []api.Piece, []api.Rx) {
	pieces := []api.Piece{lit("a&"), ref(1), lit("spare"), ref(-5)}
	kids := []api.Rx{group(1, set("a")), star(set("b")), {Kind: 77}, row(row())}
	r := api.Rx{Kind: api.RCat, Kids: kids[:2]}
	c := put(r, pieces[:2]...)
	c.A, c.B = match(r), last()
	return []api.Cmd{base('{'), c, base('}'), base('}'), {Op: 'z'}}, pieces, kids
}

func TestWhatIsHandedInStaysAsItWas(t *testing.T) {
	l, pieces, kids := spared()
	want, wantPieces, wantKids := spared()
	const text = "{\n/(a)b*/,$s/(a)b*/a\\&\\1/\n}\n"
	if !Right(l[:3], true) || !Right(l[:3], false) || Right(l, true) || Print(l[:3], true) != text || Print(l[:4], true) != "" || Print(l[1:2], false) != "/\\(a\\)b*/,$s/\\(a\\)b*/a\\&\\1/\n" {
		t.Error(Print(l[:3], true))
	}
	if !Same(l[:3], want[:3]) || !Same(l[:3], slices.Clip(slices.Clone(want[:3]))) || Same(l[:3], want[:4]) {
		t.Error("same")
	}
	if !Same(l, want) || !slices.Equal(pieces, wantPieces) || !slices.EqualFunc(kids, wantKids, rx.Same) {
		t.Error(l, pieces, kids)
	}
}

// stringsOf are all texts in a list.
func stringsOf(l []api.Cmd) []string {
	var all []string
	for _, c := range l {
		all = append(all, c.Text, c.Y, c.Z)
		for _, p := range c.Tpl {
			all = append(all, p.Lit)
		}
	}
	return all
}

// shares tells whether a text lies in the memory of another one.
func shares(a, b string) bool {
	if a == "" || b == "" {
		return false
	}
	at, from := uintptr(unsafe.Pointer(unsafe.StringData(a))), uintptr(unsafe.Pointer(unsafe.StringData(b)))
	return from < at+uintptr(len(a)) && at < from+uintptr(len(b))
}

func TestTextsHandedOutAreNewMemory(t *testing.T) {
	for _, s := range []string{"a\\\nsome text of lines", "b label_1;t label_2;: label_1;: label_2", "w stream", "s/some/thing else/w stream", "y/abcdef/ghijkl/", "{i\\\nab\n}", "p"} {
		s = strings.Clone(s)
		l, _, err := Parse(s, false)
		if err != api.OK {
			t.Fatal(s)
		}
		for _, text := range stringsOf(l) {
			if shares(text, s) {
				t.Errorf("%q lies in %q", text, s)
			}
		}
		printed := Print(l, false)
		for _, text := range stringsOf(l) {
			if shares(text, printed) {
				t.Errorf("%q shares with what it prints to", text)
			}
		}
	}
}

// spoil writes over all that a list holds, its spare room too.
func spoil(l []api.Cmd) {
	l = l[:cap(l)]
	for i := range l {
		for _, r := range []*api.Rx{&l[i].A.Rx, &l[i].B.Rx, &l[i].Rx} {
			spoilRx(r)
		}
		pieces := l[i].Tpl[:cap(l[i].Tpl)]
		for j := range pieces {
			pieces[j] = api.Piece{Group: 77}
		}
		l[i] = api.Cmd{Op: 'z'}
	}
}

func spoilRx(r *api.Rx) {
	kids := r.Kids[:cap(r.Kids)]
	for i := range kids {
		spoilRx(&kids[i])
		kids[i] = api.Rx{Kind: -1}
	}
}

func TestWhatIsReadSharesNothing(t *testing.T) {
	for _, s := range append(scripts(), "/(a)(b)/,/(a)(b)/s/(a)(b)/\\1x\\2y/;/(a)(b)/,/(a)(b)/s/(a)(b)/\\1x\\2y/;p") {
		for _, ere := range []bool{false, true} {
			first, _, _ := Parse(s, ere)
			again, _, _ := Parse(s, ere)
			third, _, _ := Parse(s, ere)
			spoil(first)
			if !Same(again, third) {
				t.Fatalf("%q: two answers share memory", s)
			}
			// No list of an answer reaches into another one.
			for i := range again {
				spoil(again[i : i+1 : i+1])
				if !Same(again[i+1:], third[i+1:]) {
					t.Fatalf("%q: two commands share memory", s)
				}
			}
			if later, where, err := Parse(s, ere); !Same(later, third) || where < 0 || err == api.OK && where != 0 {
				t.Fatalf("%q: a later answer hangs on an earlier one", s)
			}
		}
	}
	l, _, _ := Parse("/ab/,/ab/s/ab/x&/", false)
	spoilRx(&l[0].A.Rx)
	want := row(set("a"), set("b"))
	if !rx.Same(l[0].B.Rx, want) || !rx.Same(l[0].Rx, want) {
		t.Error("two expressions share memory")
	}
}
