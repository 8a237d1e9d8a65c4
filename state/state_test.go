package state

import (
	"math"
	"slices"
	"strings"
	"testing"

	"gloss/api"
	"gloss/prog"
)

// Helpers.

func load(t *testing.T, s string) *api.Prog {
	t.Helper()
	p, at, err := prog.Load(s, api.Options{})
	if p == nil || err != api.OK {
		t.Fatalf("%q isn't loaded: %d, %d", s, at, err)
	}
	return p
}

// held is a state of a hold space alone.
func held(s string) api.State { return api.State{Hold: s} }

// ons is a state of Ons alone.
func ons(on ...bool) api.State { return api.State{On: on} }

func wantRight(t *testing.T, p *api.Prog, s api.State, want bool) {
	t.Helper()
	if got := Right(p, s); got != want {
		t.Errorf("Right of %q, %v, %v: %v", s.Hold, s.On, s.Over, got)
	}
}

// P11.1

func TestBegin(t *testing.T) {
	for _, script := range []string{"", "p", "1,2p", "1,2p;p;/a/d", "1,/x/{\n/a/,$!d\n};x", "1,2p;x" + strings.Repeat(";3,4d", 38)} {
		p := load(t, script)
		for _, lines := range []int{math.MinInt, -5, -1, 0, 1, 2, 3, api.MaxLines, api.MaxLines + 1, math.MaxInt} {
			s := Begin(p, lines)
			if s.Hold != "" || len(s.On) != len(p.Cmds) || slices.Contains(s.On, true) || s.Over != (lines < 1) {
				t.Errorf("%q, %d lines: %+v", script, lines, s)
			}
			wantRight(t, p, s, true)
		}
	}
}

func TestBeginOfNoProgram(t *testing.T) {
	for lines, over := range map[int]bool{-1: true, 0: true, 1: false, 3: false} {
		s := Begin(nil, lines)
		if s.Hold != "" || len(s.On) != 0 || s.Over != over {
			t.Errorf("%d lines: %+v", lines, s)
		}
	}
}

func TestRightOfHold(t *testing.T) {
	p := load(t, "1,2p")
	for _, n := range []int{0, 1, 59, 60} {
		for _, b := range []string{"x", "\n", "\x00", "\xff"} {
			wantRight(t, p, api.State{Hold: strings.Repeat(b, n), On: []bool{false}}, true)
			wantRight(t, p, api.State{Hold: strings.Repeat(b, n), On: []bool{true}, Over: true}, true)
		}
	}
	for _, n := range []int{61, 62, 120, 1 << 20} {
		wantRight(t, p, api.State{Hold: strings.Repeat("x", n), On: []bool{false}}, false)
	}
	// Bytes count, not signs.
	wantRight(t, p, api.State{Hold: strings.Repeat("é", 30), On: []bool{false}}, true)
	wantRight(t, p, api.State{Hold: strings.Repeat("é", 30) + "x", On: []bool{false}}, false)
}

func TestRightOfAsManyOns(t *testing.T) {
	for n := range 6 {
		p := load(t, strings.Repeat("1,2p;", n))
		if len(p.Cmds) != n {
			t.Fatal(len(p.Cmds))
		}
		for k := range 9 {
			wantRight(t, p, api.State{On: make([]bool, k)}, k == n)
			wantRight(t, p, api.State{On: slices.Repeat([]bool{true}, k)}, k == n)
		}
		wantRight(t, p, api.State{}, n == 0)
	}
	p := load(t, strings.Repeat("1,2p;", api.MaxCmds))
	for _, k := range []int{0, 1, api.MaxCmds - 1, api.MaxCmds, api.MaxCmds + 1, 1 << 16} {
		wantRight(t, p, api.State{On: make([]bool, k)}, k == api.MaxCmds)
	}
}

func TestRightOfWhatIsOn(t *testing.T) {
	for script, ranges := range map[string][]bool{
		"p":                               {false},
		"1p":                              {false},
		"$p":                              {false},
		"/a/p":                            {false},
		"1!p":                             {false},
		"1,2p":                            {true},
		"1,1p":                            {true},
		"3,1p":                            {true},
		"1,$p":                            {true},
		"$,/a/p":                          {true},
		"/a/,/b/p":                        {true},
		"/a/,/b/!p":                       {true},
		"p;p;1,2p":                        {false, false, true},
		"1,2p;p;/a/d":                     {true, false, false},
		"1{/a/,2p};:x":                    {false, true, false, false},
		"1,2{p};3d":                       {true, false, false, false},
		"1,2{3,4{5,6s/a/b/;y/a/b/;};};$q": {true, true, true, false, false, false, false},
	} {
		p := load(t, script)
		if len(p.Cmds) != len(ranges) {
			t.Fatalf("%q: %+v", script, p.Cmds)
		}
		wantRight(t, p, api.State{On: ranges}, true)
		for i, is := range ranges {
			s := api.State{On: make([]bool, len(ranges))}
			wantRight(t, p, s, true)
			s.On[i] = true
			wantRight(t, p, s, is)
			s.Over = true
			wantRight(t, p, s, is)
			all := slices.Clone(ranges)
			all[i] = true
			wantRight(t, p, api.State{On: all}, is)
			all[i] = false
			wantRight(t, p, api.State{On: all}, true)
		}
	}
}

func TestRightOfNoProgram(t *testing.T) {
	for _, s := range states() {
		wantRight(t, nil, s, false)
	}
}

func TestRightWithoutACommand(t *testing.T) {
	p := load(t, "")
	wantRight(t, p, api.State{}, true)
	wantRight(t, p, api.State{On: []bool{}, Hold: "x", Over: true}, true)
	wantRight(t, p, held(strings.Repeat("x", 61)), false)
	wantRight(t, p, ons(false), false)
	wantRight(t, p, ons(true), false)
}

// P11.2

// states are all others than one another.
func states() []api.State {
	all := []api.State{}
	for _, hold := range []string{"", "a", "b", "A", "ab", "ba", "a\n", "\na", "\n", "\x00", "\x01", "\x00\x00", "\xff", strings.Repeat("x", 60), strings.Repeat("x", 59) + "y", "y" + strings.Repeat("x", 59), strings.Repeat("x", 61)} {
		for _, on := range [][]bool{nil, {false}, {true}, {false, false}, {false, true}, {true, false}, {true, true}, {false, false, false}, {false, true, false}, make([]bool, 40)} {
			all = append(all, api.State{Hold: hold, On: on}, api.State{Hold: hold, On: on, Over: true})
		}
	}
	return all
}

func TestSameOfFew(t *testing.T) {
	if !Same() || !Same([]api.State{}...) {
		t.Error("of none")
	}
	all := states()
	for i, a := range all {
		if !Same(a) {
			t.Errorf("of one: %+v", a)
		}
		for k, b := range all {
			if Same(a, b) != (i == k) {
				t.Errorf("of two: %+v, %+v", a, b)
			}
		}
	}
}

func TestSameOfMany(t *testing.T) {
	all := states()
	for n := range 7 {
		for i, a := range all {
			l := slices.Repeat([]api.State{a}, n)
			if !Same(l...) {
				t.Fatalf("%d of %+v", n, a)
			}
			b := all[(i+7)%len(all)]
			for k := range l {
				l[k] = b
				if Same(l...) != (n == 1) {
					t.Fatalf("%d of %+v, but %+v at place %d", n, a, b, k)
				}
				l[k] = a
			}
		}
	}
	if Same(all...) {
		t.Error("of many others")
	}
	// Each alike to a neighbour, but not all.
	a, b := held("a"), held("b")
	for _, l := range [][]api.State{{a, a, b, b}, {b, b, a}, {a, b, b}, {a, b, a, b}, {a, b, a}, {a, a, a, a, b}} {
		if Same(l...) {
			t.Errorf("%+v", l)
		}
	}
}

func TestSameInOnePart(t *testing.T) {
	base := func() api.State {
		return api.State{Hold: strings.Repeat("h", 60), On: make([]bool, 40)}
	}
	for i := range 60 {
		s := base()
		s.Hold = s.Hold[:i] + "H" + s.Hold[i+1:]
		if Same(base(), s) || Same(s, base()) {
			t.Errorf("other in byte %d", i)
		}
	}
	for i := range 40 {
		s := base()
		s.On[i] = true
		if Same(base(), s) || Same(s, base()) {
			t.Errorf("other in On %d", i)
		}
	}
	for _, n := range []int{0, 1, 39, 41} {
		s := base()
		s.On = make([]bool, n)
		if Same(base(), s) || Same(s, base()) {
			t.Errorf("%d Ons", n)
		}
	}
	s := base()
	s.Over = true
	if Same(base(), s) || Same(s, base()) {
		t.Error("other in Over")
	}
	if !Same(base(), base(), base()) {
		t.Error("others in nothing")
	}
}

// As nil and empty lists mean the same, so do states with them.
func TestNoOns(t *testing.T) {
	for _, hold := range []string{"", "a"} {
		none, empty := api.State{Hold: hold}, api.State{Hold: hold, On: []bool{}}
		cut := api.State{Hold: hold, On: []bool{true, true}[:0]}
		if !Same(none, empty) || !Same(empty, none) || !Same(none, cut, empty) {
			t.Error("Same")
		}
		if Digest(none) != Digest(empty) || Digest(none) != Digest(cut) {
			t.Error("Digest")
		}
		if len(Copy(none).On) != 0 || len(Copy(empty).On) != 0 || len(Copy(cut).On) != 0 || !Same(Copy(none), Copy(empty), Copy(cut), none) {
			t.Error("Copy")
		}
		p := load(t, "")
		if !Right(p, none) || !Right(p, empty) || !Right(p, cut) {
			t.Error("Right")
		}
	}
}

func TestCopy(t *testing.T) {
	for _, s := range states() {
		c := Copy(s)
		if c.Hold != s.Hold || !slices.Equal(c.On, s.On) || c.Over != s.Over || !Same(c, s) {
			t.Errorf("%+v is copied as %+v", s, c)
		}
	}
}

// P11.3

func TestDigestOfTheSame(t *testing.T) {
	for _, s := range states() {
		want := Digest(s)
		roomy := append(append(make([]bool, 0, 64), s.On...), true, false, true)
		for _, c := range []api.State{s, Copy(s), {Hold: strings.Clone(s.Hold), On: slices.Clone(s.On), Over: s.Over}, {Hold: s.Hold, On: roomy[:len(s.On)], Over: s.Over}} {
			if !Same(s, c) || Digest(c) != want {
				t.Errorf("%+v and %+v", s, c)
			}
		}
	}
}

// The promise is kept by any one number; this digest is to tell states apart, too.
func TestDigestOfOthers(t *testing.T) {
	seen := make(map[uint64]int)
	all := states()
	for i, s := range all {
		d := Digest(s)
		if k, ok := seen[d]; ok {
			t.Errorf("%+v and %+v are one number", all[k], s)
		}
		seen[d] = i
	}
}

// The chapter's runs.

func TestRuns(t *testing.T) {
	s := Begin(load(t, "1,2p"), 3)
	if len(s.On) != 1 || s.On[0] || s.Over || s.Hold != "" {
		t.Errorf("%+v", s)
	}
}
