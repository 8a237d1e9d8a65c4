package state

import (
	"math/rand"
	"slices"
	"strconv"
	"strings"
	"testing"

	"gloss/api"
	"gloss/prog"
)

// plainText writes a state in full: two are alike if they are written alike.
func plainText(s api.State) string {
	var b strings.Builder
	b.WriteString(strconv.Quote(s.Hold))
	for _, on := range s.On {
		b.WriteString(strconv.FormatBool(on))
	}
	b.WriteString(" over " + strconv.FormatBool(s.Over))
	return b.String()
}

// plainRight works out of a script's lines whether a state is right: a command a line, that holds a comma if it has two addresses.
func plainRight(lines []string, s api.State) bool {
	on := 0
	for i, line := range lines {
		if i < len(s.On) && s.On[i] && strings.Contains(line, ",") {
			on++
		}
	}
	all := 0
	for _, is := range s.On {
		if is {
			all++
		}
	}
	return all == on && len(s.On)-len(lines) == 0 && !(len(s.Hold) > 60)
}

// eachOns goes over all lists of up to n Ons.
func eachOns(n int, do func([]bool)) {
	for k := range n + 1 {
		for bits := range 1 << k {
			l := make([]bool, k)
			for i := range l {
				l[i] = bits>>i&1 == 1
			}
			do(l)
		}
	}
}

// commands are of each kind of addresses.
func commands() []string {
	return []string{"p", "1d", "$x", "/a/!h", "1,2p", "/a/,/b/g", "2,$!G", "$,1s/a/b/"}
}

func TestRightOfAllShortScripts(t *testing.T) {
	kinds := commands()
	for code := range len(kinds) * len(kinds) * len(kinds) {
		var lines []string
		for rest := code; rest > 0; rest /= len(kinds) {
			lines = append(lines, kinds[rest%len(kinds)])
		}
		p := load(t, strings.Join(lines, "\n"))
		eachOns(4, func(on []bool) {
			for _, hold := range []int{0, 60, 61} {
				s := api.State{Hold: strings.Repeat("h", hold), On: on, Over: code%2 == 0}
				if got, want := Right(p, s), plainRight(lines, s); got != want {
					t.Fatalf("%q, %+v: %v", lines, s, got)
				}
			}
		})
	}
}

func chanceState(r *rand.Rand) api.State {
	hold := make([]byte, r.Intn(4))
	for i := range hold {
		hold[i] = "ab\n\x00"[r.Intn(4)]
	}
	on := make([]bool, r.Intn(4))
	for i := range on {
		on[i] = r.Intn(2) == 0
	}
	return api.State{Hold: string(hold), On: on, Over: r.Intn(2) == 0}
}

func TestSameAsWritten(t *testing.T) {
	r := rand.New(rand.NewSource(1))
	for range 100000 {
		l := make([]api.State, r.Intn(5))
		texts := make([]string, len(l))
		for i := range l {
			l[i] = chanceState(r)
			if i > 0 && r.Intn(3) > 0 {
				l[i] = Copy(l[r.Intn(i)])
			}
			texts[i] = plainText(l[i])
		}
		want := len(slices.Compact(slices.Clone(texts))) < 2
		if got := Same(l...); got != want {
			t.Fatalf("%q: %v", texts, got)
		}
		for i, s := range l {
			for k := range i {
				if texts[i] == texts[k] && Digest(s) != Digest(l[k]) {
					t.Fatalf("%q has two numbers", texts[i])
				}
			}
			if plainText(Copy(s)) != texts[i] {
				t.Fatalf("%q is copied as %q", texts[i], plainText(Copy(s)))
			}
		}
	}
}

// States that differ have other numbers, of as many as there are here.
func TestDigestsOfManyStates(t *testing.T) {
	seen := make(map[uint64]string)
	eachOns(8, func(on []bool) {
		for _, hold := range []string{"", "a", "b", "ab", "aa", "\n", "\x00", "\x01", "\x00\x01", "\x01\x00"} {
			for _, over := range []bool{false, true} {
				s := api.State{Hold: hold, On: on, Over: over}
				text := plainText(s)
				if other, ok := seen[Digest(s)]; ok && other != text {
					t.Fatalf("%s and %s", other, text)
				}
				seen[Digest(s)] = text
			}
		}
	})
}

func TestBeginOfManyScripts(t *testing.T) {
	kinds := commands()
	r := rand.New(rand.NewSource(2))
	for range 2000 {
		var lines []string
		for range r.Intn(api.MaxCmds + 1) {
			lines = append(lines, kinds[r.Intn(len(kinds))])
		}
		p, _, err := prog.Load(strings.Join(lines, "\n"), api.Options{Quiet: r.Intn(2) == 0, Ere: r.Intn(2) == 0})
		if err != api.OK {
			t.Fatal(lines, err)
		}
		n := r.Intn(5) - 2
		s := Begin(p, n)
		want := `""` + strings.Repeat("false", len(lines)) + " over " + strconv.FormatBool(n <= 0)
		if plainText(s) != want || !Right(p, s) || !plainRight(lines, s) {
			t.Fatalf("%q: %s", lines, plainText(s))
		}
	}
}
