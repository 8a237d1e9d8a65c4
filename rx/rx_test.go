package rx

import (
	"testing"

	"gloss/api"
	"gloss/bset"
)

// Makers of expressions: the tests' own, so that what is read isn't held against itself.

func set(s string) api.Rx { return oneSet(bset.Of([]byte(s)...)) }

func not(s string) api.Rx { return oneSet(bset.Not(bset.Of([]byte(s)...))) }

func oneSet(s api.Set) api.Rx { return api.Rx{Kind: api.RSet, Set: s} }

func dot() api.Rx { return oneSet(bset.Range(0, 255)) }

func cat(kids ...api.Rx) api.Rx { return api.Rx{Kind: api.RCat, Kids: kids} }

func alt(kids ...api.Rx) api.Rx { return api.Rx{Kind: api.RAlt, Kids: kids} }

func rep(low, high int, kid api.Rx) api.Rx {
	return api.Rx{Kind: api.RRep, Min: low, Max: high, Kids: []api.Rx{kid}}
}

func group(n int, kid api.Rx) api.Rx {
	return api.Rx{Kind: api.RGroup, N: n, Kids: []api.Rx{kid}}
}

func backTo(n int) api.Rx { return api.Rx{Kind: api.RBack, N: n} }

func first() api.Rx { return api.Rx{Kind: api.RBegin} }

func last() api.Rx { return api.Rx{Kind: api.REnd} }

// word is the row of a text's bytes.
func word(s string) api.Rx {
	var kids []api.Rx
	for i := range len(s) {
		kids = append(kids, set(s[i:i+1]))
	}
	return cat(kids...)
}

// nested is a group in a group, n of them, numbered from 1 on.
func nested(n int) api.Rx {
	r := cat()
	for ; n > 0; n-- {
		r = group(n, r)
	}
	return r
}

// copyOf is r with lists of its own that have room behind them.
func copyOf(r api.Rx) api.Rx {
	kids := make([]api.Rx, 0, len(r.Kids)+2)
	for _, kid := range r.Kids {
		kids = append(kids, copyOf(kid))
	}
	r.Kids = kids
	return r
}

// P4.1

func TestNodesAndGroupsCountAll(t *testing.T) {
	for i, q := range []struct {
		r             api.Rx
		nodes, groups int
	}{
		{set("a"), 1, 0},
		{api.Rx{}, 1, 0},
		{cat(), 1, 0},
		{api.Rx{Kind: api.RCat, Kids: []api.Rx{}}, 1, 0},
		{cat(set("a"), set("b")), 3, 0},
		{alt(set("a"), cat(first(), last()), cat()), 6, 0},
		{rep(0, -1, set("a")), 2, 0},
		{group(1, set("a")), 2, 1},
		{cat(group(1, set("a")), backTo(1)), 4, 1},
		{nested(3), 4, 3},
		{nested(9), 10, 9},
		{cat(group(1, rep(0, 1, group(2, dot()))), group(3, cat())), 7, 3},
		// Those that aren't right are counted too.
		{group(7, group(7, api.Rx{Kind: -1})), 3, 2},
		{api.Rx{Kind: api.RGroup}, 1, 1},
		{api.Rx{Kind: api.RSet, Kids: []api.Rx{group(1, cat()), {}}}, 4, 1},
		{word("0123456789012345678901234567890123456789"), 41, 0},
	} {
		if n := Nodes(q.r); n != q.nodes {
			t.Errorf("%d: %d nodes, not %d", i, n, q.nodes)
		}
		if n := Groups(q.r); n != q.groups {
			t.Errorf("%d: %d groups, not %d", i, n, q.groups)
		}
	}
}

func TestDeepExpressionsAreCounted(t *testing.T) {
	const deep = 1 << 16
	r := nested(deep)
	if Nodes(r) != deep+1 || Groups(r) != deep || !Same(r, nested(deep)) || Same(r, nested(deep-1)) {
		t.Error("counts")
	}
	if Right(r, true) || Right(r, false) || Print(r, true) != "" {
		t.Error("right")
	}
}

func TestSameAsksForAllThatIsIn(t *testing.T) {
	full := api.Rx{Kind: api.RRep, Min: 1, Max: 2, N: 3, Set: api.Set{1, 2, 3, 4}, Kids: []api.Rx{set("a"), group(1, cat(set("b"), set("c")))}}
	if !Same(full, copyOf(full)) || !Same(copyOf(full), full) {
		t.Error("a copy")
	}
	for i, change := range []func(r *api.Rx){
		func(r *api.Rx) { r.Kind = api.RCat },
		func(r *api.Rx) { r.Min = 0 },
		func(r *api.Rx) { r.Max = -1 },
		func(r *api.Rx) { r.N = 0 },
		func(r *api.Rx) { r.Set[0] = 0 },
		func(r *api.Rx) { r.Set[3] ^= 1 << 63 },
		func(r *api.Rx) { r.Kids = nil },
		func(r *api.Rx) { r.Kids = r.Kids[:1] },
		func(r *api.Rx) { r.Kids = append(r.Kids, api.Rx{}) },
		func(r *api.Rx) { r.Kids[0], r.Kids[1] = r.Kids[1], r.Kids[0] },
		func(r *api.Rx) { r.Kids[1].N = 2 },
		func(r *api.Rx) { r.Kids[1].Kids[0].Kids[1] = set("d") },
	} {
		other := copyOf(full)
		change(&other)
		if Same(full, other) || Same(other, full) {
			t.Error(i)
		}
	}
}

func TestSameHoldsNilAndEmptyForOne(t *testing.T) {
	empty := api.Rx{Kind: api.RCat, Kids: []api.Rx{}}
	if !Same(empty, cat()) || !Same(cat(), empty) || !Same(group(1, empty), group(1, cat())) || !Same(api.Rx{}, api.Rx{}) {
		t.Error("nil and empty")
	}
}

func TestRight(t *testing.T) {
	a, b := set("a"), set("b")
	for i, r := range []api.Rx{
		a, dot(), set("\x00"), set("\xff"), not("a"),
		cat(), {Kind: api.RCat, Kids: []api.Rx{}}, cat(a, b), cat(a, a, a),
		rep(0, -1, a), rep(0, 1, a), rep(1, 1, a), rep(1, -1, a), rep(20, -1, a), rep(20, 20, a), rep(0, 20, a), rep(19, 20, a),
		rep(0, -1, group(1, rep(0, -1, a))), cat(group(1, a), rep(2, 3, backTo(1))),
		group(1, cat()), group(1, a), group(1, group(2, group(3, a))), group(1, rep(0, 1, a)), group(1, cat(a, b)),
		cat(group(1, a), group(2, b), group(3, a), backTo(1), backTo(2), backTo(3)),
		group(1, backTo(1)), group(1, cat(group(2, a), backTo(1), backTo(2))),
		cat(group(1, group(2, a)), group(3, b), backTo(3)),
		first(), last(), cat(first(), last()), cat(first(), a), cat(a, last()), cat(first(), a, last()),
		group(1, first()), group(1, last()), group(1, cat(first(), a, last())),
		cat(a, group(1, cat(first(), b)), a), cat(a, group(1, cat(b, last())), a), cat(a, group(1, first()), group(2, last()), b),
		rep(0, -1, group(1, first())), rep(1, 2, group(1, cat(first(), group(2, cat(first(), last())), last()))),
		word("012345678901234567890123456789012345678"),
	} {
		if !Right(r, false) || !Right(r, true) {
			t.Error(i, Right(r, false), Right(r, true))
		}
	}
}

func TestRightOfExtendedOnesAlone(t *testing.T) {
	a, b := set("a"), set("b")
	for i, r := range []api.Rx{
		alt(a, b), alt(cat(), cat()), alt(a, cat(a, b), rep(0, 1, a), first(), last(), group(1, a)), group(1, alt(a, b)),
		cat(a, group(1, alt(a, b))), alt(group(1, a), backTo(1)), alt(cat(first(), a), cat(b, last())), rep(0, -1, group(1, alt(a, b))),
		cat(a, first()), cat(last(), a), cat(first(), first()), cat(last(), last()), cat(last(), first()), cat(a, first(), b), cat(a, last(), b),
		group(1, cat(a, first())), group(1, cat(last(), a)), cat(a, group(1, cat(a, first(), a))), cat(last(), group(1, a)), cat(group(1, a), first()),
	} {
		if Right(r, false) || !Right(r, true) {
			t.Error(i, Right(r, false), Right(r, true))
		}
		if Print(r, false) != "" || Print(r, true) == "" {
			t.Error(i, "printed")
		}
	}
}

// with is r, changed.
func with(r api.Rx, change func(r *api.Rx)) api.Rx {
	r = copyOf(r)
	change(&r)
	return r
}

// wrong are expressions that aren't right, whether basic or extended.
func wrong() []api.Rx {
	a, b := set("a"), set("b")
	l := []api.Rx{
		{}, {Kind: -1}, {Kind: api.REnd + 1}, {Kind: 1 << 40},
		oneSet(api.Set{}),
		cat(a), cat(a, cat()), cat(cat(), a), cat(a, cat(a, b)), cat(a, alt(a, b)), cat(alt(a, b), a), cat(a, api.Rx{}),
		alt(), alt(a), alt(a, alt(a, b)), alt(alt(a, b), a), alt(a, cat(b)), alt(a, api.Rx{}),
		rep(0, -1, rep(0, -1, a)), rep(0, -1, first()), rep(0, -1, last()), rep(0, -1, cat()), rep(0, -1, cat(a, b)), rep(0, -1, alt(a, b)), rep(0, -1, api.Rx{}),
		rep(-1, 2, a), rep(-1, -1, a), rep(2, 1, a), rep(3, 2, a), rep(0, 0, a), rep(21, 21, a), rep(21, -1, a), rep(0, 21, a), rep(20, 21, a), rep(0, -2, a), rep(1, 0, a), rep(1<<40, -1, a),
		{Kind: api.RRep, Max: -1}, {Kind: api.RRep, Max: -1, Kids: []api.Rx{a, b}},
		{Kind: api.RGroup, N: 1}, {Kind: api.RGroup, N: 1, Kids: []api.Rx{a, b}},
		group(0, a), group(2, a), group(-1, a), cat(group(1, a), group(1, b)), cat(group(2, a), group(1, b)), group(2, group(1, a)), cat(group(1, a), group(3, b)), group(1, api.Rx{}),
		backTo(1), backTo(0), backTo(-1), cat(backTo(1), group(1, a)), cat(group(1, a), backTo(2)), cat(group(1, a), backTo(2), group(2, a)), group(1, backTo(0)), rep(0, -1, backTo(1)), group(1, cat(backTo(2), group(2, a))),
		cat(group(1, a), group(2, a), group(3, a), group(4, a)), cat(group(1, a), group(2, a), group(3, a), backTo(4)), nested(api.MaxGroups + 1), nested(api.MaxDeep), nested(api.MaxDeep + 1),
		word("0123456789012345678901234567890123456789"),
	}
	return append(l, fat()...)
}

// fat are expressions that have more than their kind asks.
func fat() []api.Rx {
	a := set("a")
	more := []func(r *api.Rx){
		func(r *api.Rx) { r.Min++ },
		func(r *api.Rx) { r.Max++ },
		func(r *api.Rx) { r.N++ },
		func(r *api.Rx) { r.Set[2] |= 1 },
		func(r *api.Rx) { r.Kids = append(r.Kids, a) },
	}
	const low, high, n, word, kids = 0, 1, 2, 3, 4
	asked := func(kind, part int) bool {
		switch kind {
		case api.RSet:
			return part == word
		case api.RCat, api.RAlt:
			return part == kids
		case api.RRep:
			return part == low || part == high
		}
		return false
	}
	var l []api.Rx
	for _, r := range []api.Rx{a, cat(), cat(a, a), alt(a, a), rep(1, 2, a), group(1, a), cat(group(1, a), backTo(1)), first(), last()} {
		for part, change := range more {
			if r.Kind == api.RCat && len(r.Kids) == 2 && r.Kids[1].Kind == api.RBack {
				l = append(l, with(r, func(r *api.Rx) { change(&r.Kids[1]) }))
			} else if !asked(r.Kind, part) {
				l = append(l, with(r, change))
			}
		}
	}
	return l
}

func TestWhatIsNotRight(t *testing.T) {
	for i, r := range wrong() {
		for _, ere := range []bool{false, true} {
			if Right(r, ere) {
				t.Errorf("%d: %v: right: %v", i, ere, r)
			}
			if s := Print(r, ere); s != "" {
				t.Errorf("%d: %v: printed: %q", i, ere, s)
			}
		}
	}
}

func TestWrongPartsMakeTheWholeWrong(t *testing.T) {
	a := set("a")
	for i, r := range wrong() {
		for j, whole := range []api.Rx{cat(a, r), cat(r, a), cat(a, r, a), alt(a, r), alt(r, a), rep(0, -1, r), group(2, r)} {
			if Right(whole, true) || Right(whole, false) {
				t.Error(i, j, whole)
			}
		}
	}
}

func TestRightCountsNodes(t *testing.T) {
	thirty := "012345678901234567890123456789"
	for i, q := range []struct {
		r     api.Rx
		right bool
	}{
		{word(thirty + "012345678"), true},
		{word(thirty + "0123456789"), false},
		{cat(append(word(thirty+"0123456").Kids, group(1, set("a")))...), true},
		{cat(append(word(thirty+"01234567").Kids, rep(0, 1, set("a")))...), false},
		{group(1, word(thirty+"01234567")), true},
		{group(1, word(thirty+"012345678")), false},
	} {
		if Right(q.r, false) != q.right || Right(q.r, true) != q.right || (Nodes(q.r) <= api.MaxRx) != q.right {
			t.Error(i, Nodes(q.r))
		}
	}
}

func TestRightEndsWhereExpressionsDont(t *testing.T) {
	round := []api.Rx{set("a"), {}}
	round[1] = api.Rx{Kind: api.RGroup, N: 1, Kids: round[1:]}
	for i, r := range []api.Rx{cat(round...), round[1], alt(round...)} {
		if Right(r, true) || Right(r, false) || Print(r, true) != "" {
			t.Error(i)
		}
	}
	wide := api.Rx{Kind: api.RCat, Kids: make([]api.Rx, 1<<16)}
	for i := range wide.Kids {
		wide.Kids[i] = set("a")
	}
	if Right(wide, true) || Right(wide, false) {
		t.Error("wide")
	}
}
