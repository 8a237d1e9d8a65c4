package rope

import (
	"math"
	"math/bits"
	"slices"
	"testing"

	"gloss/mark"
)

func item(key, lines, bytes int) Item { return Item{Key: key, Mark: mark.Of(lines, bytes)} }

// row has items 0 to n-1: some of no line, some of several.
func row(n int) []Item {
	var l []Item
	for k := range n {
		l = append(l, item(k, k*5%4, k*7%23))
	}
	return l
}

func sum(l []Item) complex128 {
	var ms []complex128
	for _, x := range l {
		ms = append(ms, x.Mark)
	}
	return mark.Sum(ms...)
}

// same holds r against the items it should have, by every call that only reads.
func same(t *testing.T, r Rope, want []Item) {
	t.Helper()
	if got := r.Items(); !slices.Equal(got, want) {
		t.Fatalf("Items: %v, want %v", got, want)
	}
	if r.Len() != len(want) {
		t.Errorf("Len: %d, want %d", r.Len(), len(want))
	}
	if r.Mark() != sum(want) {
		t.Errorf("Mark: %v, want %v", r.Mark(), sum(want))
	}
	for i, x := range want {
		if got, ok := r.At(i); !ok || got != x {
			t.Errorf("At(%d): %v %v, want %v", i, got, ok, x)
		}
	}
	low(t, r)
	if r.root != nil {
		levels(t, r.root)
	}
}

// low asks of a rope's height what the chapter says.
func low(t *testing.T, r Rope) {
	t.Helper()
	if h := r.Height(); h > 2*bits.Len(uint(r.Len())) || (h == 0) != (r.Len() == 0) {
		t.Errorf("Height: %d of %d items", h, r.Len())
	}
}

// levels counts the levels below n, and asks that they are told rightly and differ by one at most.
func levels(t *testing.T, n *node) int {
	t.Helper()
	if n.leaf() {
		if n.height != 1 {
			t.Fatalf("a leaf of height %d", n.height)
		}
		return 1
	}
	left, right := levels(t, n.left), levels(t, n.right)
	if h := 1 + max(left, right); n.height != h || left > right+1 || right > left+1 {
		t.Fatalf("height %d, but %d and %d below", n.height, left, right)
	}
	return n.height
}

// place is what Line should answer, gone through one by one.
func place(l []Item, n int) (int, complex128) {
	for i := range l {
		if mark.Lines(sum(l[:i+1])) > n {
			return i, sum(l[:i])
		}
	}
	return len(l), sum(l)
}

// P3.1

func TestOfKeepsOrder(t *testing.T) {
	for _, n := range []int{0, 1, 2, 3, 4, 5, 7, 8, 9, 31, 32, 33, 100} {
		same(t, Of(row(n)...), row(n))
	}
	same(t, Of(item(3, 1, 1), item(-3, 0, 0), item(3, 1, 1)), []Item{item(3, 1, 1), item(-3, 0, 0), item(3, 1, 1)})
	same(t, Of(Item{}), []Item{{}})
}

func TestEmptyRopes(t *testing.T) {
	var none []Rope
	a, b := Rope{}.Split(0)
	c, d := Of(row(3)...).Split(0)
	e, f := Of(row(3)...).Split(3)
	for _, r := range []Rope{{}, Of(), Of([]Item{}...), Join(), Join(none...), Join(Rope{}), Join(Rope{}, Of(), Rope{}), a, b, c, f} {
		same(t, r, nil)
	}
	same(t, d, row(3))
	same(t, e, row(3))
}

func TestJoin(t *testing.T) {
	l := row(40)
	for _, cut := range [][2]int{{0, 0}, {0, 40}, {1, 1}, {1, 39}, {5, 6}, {20, 20}, {33, 40}, {40, 40}} {
		i, k := cut[0], cut[1]
		same(t, Join(Of(l[:i]...), Of(l[i:k]...), Of(l[k:]...)), l)
		same(t, Join(Of(l[k:]...), Of(l[:i]...)), slices.Concat(l[k:], l[:i]))
	}
	same(t, Join(Of(l...)), l)
	same(t, Join(Rope{}, Of(l...), Rope{}, Of(l[:1]...), Rope{}), slices.Concat(l, l[:1]))
}

// A high tree beside a low one, at either side, for every two heights.
func TestJoinOfAllSizes(t *testing.T) {
	l := row(120)
	for i := range l {
		for k := i; k <= len(l); k += 1 + k/7 {
			same(t, Join(Of(l[:i]...), Of(l[i:k]...)), l[:k])
		}
	}
}

func TestSplit(t *testing.T) {
	for _, n := range []int{0, 1, 2, 3, 10, 64, 65} {
		l := row(n)
		r := Of(l...)
		for i := range n + 1 {
			a, b := r.Split(i)
			same(t, a, l[:i])
			same(t, b, l[i:])
			same(t, Join(b, a), slices.Concat(l[i:], l[:i]))
		}
		for _, i := range []int{-1, -2, math.MinInt} {
			a, b := r.Split(i)
			same(t, a, nil)
			same(t, b, l)
		}
		for _, i := range []int{n + 1, n + 2, math.MaxInt} {
			a, b := r.Split(i)
			same(t, a, l)
			same(t, b, nil)
		}
	}
}

func TestRunsOfTheChapter(t *testing.T) {
	x, y, z := item(1, 1, 4), item(2, 1, 4), item(3, 1, 4)
	r := Of(x, y, z)
	a, b := r.Split(1)
	same(t, Join(b, a), []Item{y, z, x})
	if at, m := r.Line(1); at != 1 || m != mark.Of(1, 4) {
		t.Error(at, m)
	}
}

// P3.2

func TestAtNoPlace(t *testing.T) {
	for _, n := range []int{0, 1, 2, 9} {
		r := Of(row(n)...)
		for _, i := range []int{-1, n, n + 1, math.MinInt, math.MaxInt} {
			if x, ok := r.At(i); ok || x != (Item{}) {
				t.Errorf("At(%d) of %d: %v %v", i, n, x, ok)
			}
		}
	}
	r := Of(row(9)...)
	for _, i := range []int{0, 8} {
		if x, ok := r.At(i); !ok || x != row(9)[i] {
			t.Errorf("At(%d): %v %v", i, x, ok)
		}
	}
}

func TestLine(t *testing.T) {
	rows := [][]Item{nil, row(1), row(2), row(50),
		{item(0, 0, 3)},
		{item(0, 0, 3), item(1, 0, 0), item(2, 0, 4)},
		{item(0, 0, 3), item(1, 2, 9), item(2, 0, 4), item(3, 0, 1), item(4, 1, 1), item(5, 0, 6)},
		{item(0, 40, 40), item(1, 1, 1)},
	}
	for _, l := range rows {
		r := Of(l...)
		for n := -3; n < 90; n++ {
			i, m := place(l, n)
			if at, ahead := r.Line(n); at != i || ahead != m {
				t.Errorf("Line(%d) of %v: %d %v, want %d %v", n, l, at, ahead, i, m)
			}
		}
		if at, ahead := r.Line(math.MinInt); at != 0 || ahead != 0 {
			t.Errorf("Line of the least number: %d %v", at, ahead)
		}
		if at, ahead := r.Line(math.MaxInt); at != len(l) || ahead != sum(l) {
			t.Errorf("Line of the greatest number: %d %v", at, ahead)
		}
	}
}

func TestLineOfItemsOfNoLine(t *testing.T) {
	r := Of(item(1, 0, 2), item(2, 0, 3))
	if at, m := r.Line(0); at != 2 || m != mark.Of(0, 5) {
		t.Error(at, m)
	}
	if at, m := r.Line(-1); at != 0 || m != 0 {
		t.Error(at, m)
	}
}

// Beyond 2^53 a sum of rounded sums is not the sum of the marks.
func TestMarkOfGreatMarks(t *testing.T) {
	var l []Item
	for k := range 20001 {
		l = append(l, item(k, 1<<40-1-k%2, 1<<40-3+k%4))
	}
	r := Of(l...)
	if r.Mark() != sum(l) {
		t.Errorf("%v, want %v", r.Mark(), sum(l))
	}
	var p Rope
	for _, x := range l {
		p = Join(p, Of(x))
	}
	if p.Mark() != sum(l) {
		t.Errorf("one by one: %v, want %v", p.Mark(), sum(l))
	}
	last := len(l) - 1
	n := mark.Lines(sum(l[:last])) + 1<<30
	if at, m := r.Line(n); at != last || m != sum(l[:last]) {
		t.Errorf("Line(%d): %d %v, want %d %v", n, at, m, last, sum(l[:last]))
	}
}

// P3.3

func TestHeightOfFew(t *testing.T) {
	for n, h := range []int{0, 1, 2} {
		if got := Of(row(n)...).Height(); got != h {
			t.Errorf("%d items: %d levels, want %d", n, got, h)
		}
	}
}

func TestOneByOneFromEitherEnd(t *testing.T) {
	l := row(3000)
	var p, q Rope
	for i, x := range l {
		p = Join(p, Of(x))
		q = Join(Of(l[len(l)-1-i]), q)
		low(t, p)
		low(t, q)
	}
	same(t, p, l)
	same(t, q, l)
	for len(l) > 0 {
		_, p = p.Split(1)
		q, _ = q.Split(q.Len() - 1)
		l = l[1:]
		low(t, p)
		low(t, q)
	}
}

func TestJoinedWithItself(t *testing.T) {
	l := row(3)
	r := Of(l...)
	for range 7 {
		r, l = Join(r, r), slices.Concat(l, l)
		same(t, r, l)
	}
	r = Of(item(1, 1, 4), item(2, 0, 2))
	for k := range 61 {
		if r.Len() != 2<<k || r.Mark() != complex(math.Ldexp(1, k), math.Ldexp(6, k)) {
			t.Fatalf("doubled %d times: %d items, %v", k, r.Len(), r.Mark())
		}
		low(t, r)
		n := 1<<k - 1
		if at, m := r.Line(n); k < 50 && (at != 2*n || m != mark.Of(n, 6*n)) {
			t.Fatalf("doubled %d times: Line: %d %v", k, at, m)
		}
		if x, ok := r.At(2<<k - 1); !ok || x.Key != 2 {
			t.Fatalf("doubled %d times: the last item: %v %v", k, x, ok)
		}
		r = Join(r, r)
	}
}

// More items than a number can tell: all still ends, and nothing panics.
func TestFarTooMany(t *testing.T) {
	r := Of(row(3)...)
	for range 100 {
		r = Join(r, r)
		low(t, r)
		for _, i := range []int{-1, 0, 1, math.MaxInt - 1, math.MaxInt} {
			a, b := r.Split(i)
			low(t, a)
			low(t, b)
			low(t, Join(b, r, a))
			r.At(i)
			if at, _ := r.Line(i); at < 0 {
				t.Fatal("a place below 0")
			}
		}
	}
	if r.Len() != math.MaxInt {
		t.Error(r.Len())
	}
	empty := Of(item(1, 0, 0))
	for range 70 {
		empty = Join(empty, empty)
	}
	if at, m := Join(empty, Of(row(1)...), empty, Of(item(1, 1, 1))).Line(0); at != math.MaxInt || m != 0 {
		t.Error(at, m)
	}
}

func TestElderRopesStay(t *testing.T) {
	l := row(1)
	ropes, lists := []Rope{Of(l...)}, [][]Item{l}
	for k := range 150 {
		from := k * 31 % len(ropes)
		r, l := ropes[from], lists[from]
		i := k * 17 % (len(l) + 1)
		a, b := r.Split(i)
		x := item(1000+k, k%2, k)
		ropes = append(ropes, Join(a, Of(x), b), b)
		lists = append(lists, slices.Concat(l[:i], []Item{x}, l[i:]), l[i:])
	}
	for i, r := range ropes {
		same(t, r, lists[i])
	}
}

// R2

func TestNothingIsShared(t *testing.T) {
	full := row(9)
	l := full[:5]
	r := Of(l...)
	if !slices.Equal(full, row(9)) {
		t.Error("what was handed in is changed")
	}
	l[2].Key = 77
	same(t, r, row(5))
	got := r.Items()
	got = append(got[:3], item(99, 9, 9))
	got[0].Mark = 5
	same(t, r, row(5))
	same(t, Join(r, r), slices.Concat(row(5), row(5)))
	rs := []Rope{r, Of(row(2)...), {}}
	kept := slices.Clone(rs)
	joined := Join(rs[:2]...)
	if !slices.Equal(rs, kept) {
		t.Error("the list of ropes is changed")
	}
	rs[0], rs[1] = Rope{}, Rope{}
	same(t, joined, slices.Concat(row(5), row(2)))
}

// R1: what is no mark has no promised sum, but each call ends.
func TestWrongMarks(t *testing.T) {
	inf, nan := math.Inf(1), math.NaN()
	l := []Item{{Key: 1, Mark: complex(nan, inf)}, {Key: 2, Mark: complex(-5, 0.5)}, {Key: 3, Mark: complex(inf, nan)}, {Key: 4, Mark: complex(-inf, 1e300)}, {Key: math.MinInt}, {Key: math.MaxInt}}
	r := Join(Of(l...), Of(l...))
	for n := -9; n < 20; n++ {
		if at, _ := r.Line(n); at < 0 || at > r.Len() {
			t.Errorf("Line(%d): %d", n, at)
		}
		a, b := r.Split(n)
		if a.Len()+b.Len() != r.Len() || len(a.Items()) != a.Len() {
			t.Errorf("Split(%d): %d and %d", n, a.Len(), b.Len())
		}
	}
	if x, ok := r.At(7); !ok || x != l[1] {
		t.Error(x, ok)
	}
}

// many cuts and joins, held against a plain list.
func TestManyCuts(t *testing.T) {
	var r Rope
	var l []Item
	seed := uint64(1)
	next := func(n int) int {
		seed = seed*6364136223846793005 + 1442695040888963407
		return int(seed >> 33 % uint64(n))
	}
	for k := range 1500 {
		i := next(len(l) + 1)
		j := i + next(len(l)-i+1)
		a, b := r.Split(i)
		m, c := b.Split(j - i)
		switch next(4) {
		case 0:
			x := row(1 + next(12))
			r, l = Join(a, Of(x...), b), slices.Concat(l[:i], x, l[i:])
		case 1:
			x := item(k, k%3, k%5)
			r, l = Join(a, Of(x), b), slices.Concat(l[:i], []Item{x}, l[i:])
		case 2:
			r, l = Join(m, c, a), slices.Concat(l[i:j], l[j:], l[:i])
		case 3:
			if len(l) > 400 {
				r, l = Join(a, c), slices.Concat(l[:i], l[j:])
			}
		}
		if k%10 == 0 {
			same(t, r, l)
		}
		low(t, r)
		n := next(40) - 2
		want, ahead := place(l[:min(len(l), 60)], n)
		if at, m := r.Line(n); want < 60 && want < len(l) && (at != want || m != ahead) {
			t.Fatalf("Line(%d): %d %v, want %d %v", n, at, m, want, ahead)
		}
	}
}
