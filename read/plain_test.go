package read

import (
	"regexp"
	"slices"
	"strconv"
	"strings"
	"testing"

	"gloss/api"
	"gloss/cmd"
	"gloss/rx"
	"gloss/tpl"
)

// Patterns of the chapter's words. They go over runes that stand for bytes.
const (
	expression = `/((?:\\.|\[\^?\]?(?:\[:[a-z]+:\]|[^\]])*\]|[^\\/\[])*)/`
	address    = `[0-9]+|\$|` + expression
	oneSide    = `((?:\\[/\\n]|[^\\/\n])*)/`
)

func pattern(s string) *regexp.Regexp { return regexp.MustCompile(`(?s)\A` + s) }

var (
	gapSign     = pattern(`[ \t\n;]*`)
	firstSign   = pattern(`(?:` + address + `)?`)
	secondSign  = pattern(`,[ \t]*(` + address + `)`)
	opSign      = pattern(`[ \t]*(!?)[ \t]*(.)`)
	linesSign   = pattern(`\\\n((?:\\.|[^\\\n])*)(?:\n|\z)`)
	labelSign   = pattern(`[ \t]*([a-zA-Z0-9_]*)`)
	exprSign    = pattern(expression)
	restSign    = pattern(`((?:\\.|[^\\/])*)/((?:[gp]|[0-9]+)*)(?:(w)[ \t]*([a-zA-Z0-9_]*))?`)
	tableSign   = pattern(`/` + oneSide + oneSide)
	endSign     = pattern(`[ \t]*(?:[;\n}]|\z)`)
	flagSign    = regexp.MustCompile(`[gp]|[0-9]+`)
	escapedByte = regexp.MustCompile(`(?s)\\(.)`)
)

// latin has a rune for each byte of s.
func latin(s string) string {
	var l []rune
	for _, b := range []byte(s) {
		l = append(l, rune(b))
	}
	return string(l)
}

// bytes has a byte for each rune of s.
func bytes(s string) string {
	var l []byte
	for _, r := range s {
		l = append(l, byte(r))
	}
	return string(l)
}

// plain reads by patterns; rest is what isn't read yet, as runes.
type plain struct {
	rest string
	ere  bool
}

// next takes what sign stands for, and answers its groups; nil, if it isn't there.
func (p *plain) next(sign *regexp.Regexp) []string {
	m := sign.FindStringSubmatch(p.rest)
	if m != nil {
		p.rest = p.rest[len(m[0]):]
		for i := range m {
			m[i] = bytes(m[i])
		}
	}
	return m
}

func plainParse(s string, ere bool) ([]api.Cmd, api.Errno) {
	if len(s) > api.MaxScript {
		return nil, api.ErrBig
	}
	p := plain{rest: latin(s), ere: ere}
	var l []api.Cmd
	open := 0
	for p.next(gapSign); p.rest != ""; p.next(gapSign) {
		if len(l) == api.MaxCmds {
			return nil, api.ErrBig
		}
		c, err := p.command()
		switch {
		case err != api.OK:
			return nil, err
		case c.Op == '{':
			open++
		case c.Op == '}':
			open--
		}
		if open > api.MaxDeep {
			return nil, api.ErrDeep
		}
		if open < 0 {
			return nil, api.ErrForm
		}
		l = append(l, c)
	}
	if open != 0 {
		return nil, api.ErrForm
	}
	return l, api.OK
}

func (p *plain) command() (c api.Cmd, err api.Errno) {
	first := p.next(firstSign)[0]
	if c.A, err = p.address(first); err != api.OK {
		return c, err
	}
	var m []string
	if first != "" {
		m = p.next(secondSign)
	}
	if m != nil {
		if c.B, err = p.address(m[1]); err != api.OK {
			return c, err
		}
	}
	m = p.next(opSign)
	if m == nil {
		return c, api.ErrForm
	}
	c.Op, c.Not = m[2][0], m[1] == "!"
	if err = p.tail(&c); err == api.OK && !cmd.Right(c, p.ere) {
		err = api.ErrForm
	}
	if err == api.OK && strings.IndexByte("{aic", c.Op) < 0 && !endSign.MatchString(p.rest) {
		err = api.ErrForm
	}
	return c, err
}

func (p *plain) address(s string) (api.Addr, api.Errno) {
	switch {
	case s == "":
		return api.Addr{}, api.OK
	case s == "$":
		return api.Addr{Kind: api.ALast}, api.OK
	case s[0] == '/':
		r, err := p.expression(s)
		return api.Addr{Kind: api.AMatch, Rx: r}, err
	}
	n, wrong := strconv.Atoi(s)
	if wrong != nil || n < 1 || n > 9999 {
		return api.Addr{}, api.ErrForm
	}
	return api.Addr{Kind: api.ALine, Line: n}, api.OK
}

// expression reads one that stands between slashes.
func (p *plain) expression(s string) (api.Rx, api.Errno) {
	r, _, err := rx.Parse(s[1:len(s)-1], p.ere)
	if err != api.OK && err != api.ErrDeep || s == "//" {
		return r, api.ErrForm
	}
	return r, err
}

func (p *plain) tail(c *api.Cmd) api.Errno {
	var m []string
	switch c.Op {
	default:
		return api.OK
	case 'a', 'i', 'c':
		if m = p.next(linesSign); m != nil {
			c.Text = bytes(escapedByte.ReplaceAllString(latin(m[1]), "$1"))
		}
	case 'b', 't', ':', 'w':
		m = p.next(labelSign)
		c.Text = m[1]
	case 's':
		return p.subst(c)
	case 'y':
		if m = p.next(tableSign); m != nil {
			c.Y, c.Z = side(m[1]), side(m[2])
		}
	}
	if m == nil {
		return api.ErrForm
	}
	return api.OK
}

func side(s string) string {
	return strings.NewReplacer(`\/`, "/", `\\`, `\`, `\n`, "\n").Replace(s)
}

func (p *plain) subst(c *api.Cmd) (err api.Errno) {
	m := p.next(exprSign)
	if m == nil {
		return api.ErrForm
	}
	if c.Rx, err = p.expression(m[0]); err != api.OK {
		return err
	}
	if m = p.next(restSign); m == nil {
		return api.ErrForm
	}
	if c.Tpl, _, err = tpl.Parse(m[1], rx.Groups(c.Rx)); err != api.OK {
		return err
	}
	for _, s := range flagSign.FindAllString(m[2], -1) {
		switch {
		case s == "g" && !c.Global:
			c.Global = true
		case s == "p" && !c.Show:
			c.Show = true
		default:
			n, wrong := strconv.Atoi(s)
			if wrong != nil || n < 1 || n > 99 || c.Nth > 0 {
				return api.ErrForm
			}
			c.Nth = n
		}
	}
	if c.Text = m[4]; m[3] == "w" && c.Text == "" {
		return api.ErrForm
	}
	return api.OK
}

// wantPlain asks of any text: it is read as the patterns say, and what it is read as is right, and prints to what is read as it.
func wantPlain(t *testing.T, s string, ere bool) bool {
	t.Helper()
	got, where, err := Parse(s, ere)
	want, wantErr := plainParse(s, ere)
	if !Same(got, want) || err != wantErr {
		t.Fatalf("%q, %v: %+v, %d, %d; not %+v, %d", s, ere, got, where, err, want, wantErr)
	}
	if err != api.OK {
		if got != nil || where < 0 || where > len(s) {
			t.Errorf("%q, %v: %+v, %d, %d", s, ere, got, where, err)
		}
		return false
	}
	if where != 0 || !Right(got, ere) {
		t.Errorf("%q, %v: %+v, %d", s, ere, got, where)
	}
	wantBack(t, got, ere)
	return true
}

func TestShortTextsAreReadByTheWords(t *testing.T) {
	for _, q := range []struct {
		ahead, bytes, behind string
		n, most              int
	}{
		{"", "{};p1!", "", 5, 100}, {"", "1,$!/ap0", "", 5, 100}, {"", "ab:\\\n}{", "", 5, 100}, {"s", "/aw2g\\", "", 5, 3},
		{"1", "09,p ", "p", 6, 100}, {"/", "/[]^\\:", "/p", 6, 100}, {"/[", "[]:a^-/", "]/p", 5, 100}, {"/", "\\/n(p|", "/p", 5, 100}, {"s/a/b/", "gp012w ;", "", 4, 100}, {"s/", "a\\/&[", "/", 5, 100}, {"s/[", "]/\\b[", "/b/", 5, 100}, {"y/", "/\\na\n", "/", 6, 40}, {"a\\\n", "\\\nx}", "", 6, 100}, {"{b", " \ta;}-", "}", 5, 100}, {"w", " a_;\n!", "", 5, 100}, {"{" + times(36, "p;"), "p;{}\n", "", 5, 20}, {times(4, "{"), "{};p", "};};};}", 5, 100}, {"s/a//w", " a1;}\n", "", 5, 100},
	} {
		right := 0
		allTexts(q.bytes, q.n, func(s string) {
			for _, ere := range []bool{false, true} {
				if wantPlain(t, q.ahead+s+q.behind, ere) {
					right++
				}
			}
		})
		if right < q.most {
			t.Errorf("%q, %q: only %d are right", q.ahead, q.bytes, right)
		}
	}
}

// scripts have something of all that there is.
func scripts() []string {
	return []string{
		"1,3{p;s/a/b/g}", "a\\\nx\\\ny", "$!N;P;D", ":x\ns/\\(a\\)b/\\1&/2pgw out_1;tx\nb", "/[/]/,/\\//{y/a\\/\\n\\\\/1234/ ; {=} } ; w f", "1i\\\n\\a\\\\ b\n2,$c\\\n\n10!{q}", "/^a*$/!{;h;H\tg\n", "/[^]:/-]\\[[[:digit:]/]/s/[]\\/]\\/\\\\/[\\/\\n&]/99w w\n}", "b abcdefgh;t;:0\n1,/x/d;x;G;n\n", times(6, "{") + "p" + times(6, "};"), times(39, "p;") + "$=", "s/(a|b)+/\\1/g1p;/(x{2,3})?/,9999!s/a|b//", "0012 , 3p",
	}
}

func TestScriptsWithOneByteChanged(t *testing.T) {
	signs := " \t\n;{}:=abcpqstwxy/\\[]^$*!,.-()01239&_\x00\xff"
	right := 0
	for _, s := range scripts() {
		for _, ere := range []bool{false, true} {
			for i := range len(s) + 1 {
				texts := []string{s[:i], s[i:]}
				for _, b := range []byte(signs) {
					texts = append(texts, s[:i]+string([]byte{b})+s[i:])
					if i < len(s) {
						texts = append(texts, s[:i]+string([]byte{b})+s[i+1:])
					}
				}
				if i < len(s) {
					texts = append(texts, s[:i]+s[i+1:], s[:i]+string([]byte{s[i] ^ 1})+s[i+1:], s[:i]+string([]byte{s[i] ^ 128})+s[i+1:])
				}
				if i+2 < len(s) {
					texts = append(texts, s[:i]+s[i+1:i+2]+s[i:i+1]+s[i+2:], s[:i]+s[i+2:])
				}
				for _, text := range texts {
					if wantPlain(t, text, ere) {
						right++
					}
				}
			}
		}
	}
	if right < 10000 {
		t.Error(right)
	}
}

func FuzzParse(f *testing.F) {
	for _, s := range slices.Concat(scripts(), []string{"", " ;\n", "a\\\nx\\", "/[[:digit:]/]/p", "/[[:/:]/]/p", times(41, "p;"), times(7, "{"), "/" + nest(7, true) + "/p"}) {
		f.Add(s, true)
		f.Add(s, false)
	}
	f.Fuzz(func(t *testing.T, s string, ere bool) {
		got, where, err := Parse(s, ere)
		want, wantErr := plainParse(s, ere)
		// Of a bracket without its end, or a [: of no class, the patterns may take a part: then neither is right, but they may see another fault.
		if !Same(got, want) || (err == api.OK) != (wantErr == api.OK) || err != wantErr && !strings.Contains(s, "[") {
			t.Errorf("%q, %v: %+v, %d, %d; not %+v, %d", s, ere, got, where, err, want, wantErr)
		}
		if where < 0 || where > len(s) {
			t.Errorf("%q, %v: %d", s, ere, where)
		}
		if err == api.OK {
			wantBack(t, got, ere)
		}
	})
}
