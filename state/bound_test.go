package state

import (
	"math"
	"math/rand"
	"slices"
	"strings"
	"testing"
	"unsafe"

	"gloss/api"
)

// R1

func wantEnd(t *testing.T, p *api.Prog, ss ...api.State) {
	t.Helper()
	for _, n := range []int{math.MinInt, -1, 0, 1, math.MaxInt} {
		s := Begin(p, n)
		if s.Hold != "" || slices.Contains(s.On, true) || s.Over != (n <= 0) {
			t.Errorf("%+v", s)
		}
	}
	for _, s := range ss {
		if Right(p, s) && (p == nil || len(s.On) != len(p.Cmds) || len(s.Hold) > api.MaxSpace) {
			t.Errorf("%d bytes, %d Ons are right", len(s.Hold), len(s.On))
		}
		if c := Copy(s); !Same(c, s, c) || Digest(c) != Digest(s) {
			t.Error("a copy is another")
		}
	}
	Same(ss...)
}

func TestAnyStates(t *testing.T) {
	programs := []*api.Prog{nil, load(t, ""), load(t, "1,2p;p;/a/d"), load(t, strings.Repeat("1,$p;", api.MaxCmds))}
	long := strings.Repeat("\x00\xff\n", 1<<18)
	many := []api.State{{}, {Hold: long}, {Hold: "\xff\xfe\x00"}, {On: make([]bool, 1<<18)}, {On: slices.Repeat([]bool{true}, 1<<18), Hold: long, Over: true}, {On: []bool{true}}}
	for _, p := range programs {
		wantEnd(t, p)
		wantEnd(t, p, many...)
	}
	wantEnd(t, nil, make([]api.State, 1<<16)...)
	r := rand.New(rand.NewSource(3))
	for range 3000 {
		hold := make([]byte, r.Intn(80))
		for i := range hold {
			hold[i] = byte(r.Intn(256))
		}
		on := make([]bool, r.Intn(50))
		for i := range on {
			on[i] = r.Intn(2) == 0
		}
		wantEnd(t, programs[r.Intn(len(programs))], api.State{Hold: string(hold), On: on, Over: r.Intn(2) == 0})
	}
}

// Programs that no call made: every call ends.
func TestAnyPrograms(t *testing.T) {
	for _, p := range []*api.Prog{{}, {Cmds: make([]api.Cmd, 1000)}, {Cmds: []api.Cmd{{A: api.Addr{Kind: math.MinInt}, B: api.Addr{Kind: math.MaxInt}}}}, {Jump: []int{99}, Top: -1}} {
		wantEnd(t, p, states()...)
		wantRight(t, p, api.State{On: make([]bool, len(p.Cmds))}, true)
	}
	// A second address without a first one are not two.
	p := &api.Prog{Cmds: []api.Cmd{{B: api.Addr{Kind: api.ALast}, Op: 'p'}}}
	wantRight(t, p, ons(true), false)
}

// R2, R5

// spared is a state with room behind its Ons, and all that stands in them and there.
func spared() (api.State, []bool) {
	on := []bool{true, false, true, true, false, true}
	return api.State{Hold: "held", On: on[:2], Over: true}, on
}

func TestWhatIsHandedInStaysAsItWas(t *testing.T) {
	p := load(t, "1,2p;p")
	want := prints(p)
	s, on := spared()
	_, wantOn := spared()
	l := []api.State{s, s, held("spare"), {Over: true}}
	Begin(p, 3)
	if !Right(p, s) || !Same(l[:2]...) || Same(l...) || !Same(Copy(s), s) || Digest(s) != Digest(Copy(s)) {
		t.Error("an answer is another")
	}
	if !slices.Equal(on, wantOn) || s.Hold != "held" || !s.Over || len(s.On) != 2 {
		t.Error("a state is another now")
	}
	if l[2].Hold != "spare" || !l[3].Over || !Same(l[0], l[1], s) {
		t.Error("a list is another now")
	}
	if prints(p) != want {
		t.Error("a program is another now")
	}
}

// prints tells of a program what state could turn in it.
func prints(p *api.Prog) string {
	var b strings.Builder
	for _, c := range p.Cmds {
		b.WriteByte(c.Op)
		b.WriteString(strings.Repeat("A", c.A.Kind) + strings.Repeat("B", c.B.Kind))
	}
	return b.String()
}

// What stands in room behind a length doesn't count.
func TestSpareRoomDoesNotCount(t *testing.T) {
	p := load(t, "1,2p;p")
	on := []bool{true, false, false, false}
	for bits := range 4 {
		on[2], on[3] = bits&1 == 1, bits&2 == 2
		s := api.State{On: on[:2]}
		if !Right(p, s) || !Same(s, ons(true, false), s) || Digest(s) != Digest(ons(true, false)) {
			t.Errorf("%v counts", on[2:])
		}
		if Right(p, api.State{On: on[:1]}) || Right(p, api.State{On: on[:3]}) {
			t.Error("another length is right")
		}
		l := []api.State{s, s, held("other")}
		if !Same(l[:2]...) || !Same(l[:1]...) || !Same(l[:0]...) {
			t.Error("a state behind the list's length counts")
		}
	}
}

func TestCopiesShareNothing(t *testing.T) {
	for _, n := range []int{0, 1, 2, 7, 40} {
		on := make([]bool, n, n+8)
		s := api.State{Hold: "held", On: on}
		a, b := Copy(s), Copy(s)
		// What is turned in the state behind the call, in its room too.
		turn(on)
		if slices.Contains(a.On, true) || len(a.On) != n {
			t.Fatalf("%d: a copy hangs on its state", n)
		}
		// What is turned in another copy.
		turn(a.On)
		if slices.Contains(b.On, true) || slices.Contains(b.On[:cap(b.On)], true) {
			t.Fatalf("%d: two copies share memory", n)
		}
		for i, is := range on[:cap(on)] {
			if !is {
				t.Fatalf("%d: a state hangs on its copy, in On %d", n, i)
			}
		}
	}
}

// turn turns all that a list of Ons holds, its spare room too.
func turn(on []bool) {
	on = on[:cap(on)]
	for i := range on {
		on[i] = !on[i]
	}
}

func TestBeginsShareNothing(t *testing.T) {
	p := load(t, "1,2p;p;/a/d")
	a, b := Begin(p, 3), Begin(p, 3)
	turn(a.On)
	if slices.Contains(b.On[:cap(b.On)], true) || slices.Contains(Begin(p, 3).On, true) {
		t.Error("two beginnings share memory")
	}
	// The program is asked for when it is begun, and later it doesn't count.
	p.Cmds = p.Cmds[:1]
	if len(b.On) != 3 || len(Begin(p, 3).On) != 1 {
		t.Error("a beginning hangs on a program")
	}
}

func TestHoldOfACopyIsNewMemory(t *testing.T) {
	for _, hold := range []string{"x", "held", strings.Repeat("x", 60), strings.Repeat("x", 1000)} {
		s := api.State{Hold: strings.Clone(hold)}
		a, b := Copy(s), Copy(s)
		if shares(s.Hold, a.Hold) || shares(a.Hold, b.Hold) {
			t.Errorf("%d bytes are shared", len(hold))
		}
	}
}

// shares tells whether a text lies in the memory of another one.
func shares(a, b string) bool {
	at, from := uintptr(unsafe.Pointer(unsafe.StringData(a))), uintptr(unsafe.Pointer(unsafe.StringData(b)))
	return from < at+uintptr(len(a)) && at < from+uintptr(len(b))
}
