package rope

import "math"

// node is a leaf, which is one item, or a fork of two branches that both have items.
type node struct {
	left, right   *node // both or, of a leaf, neither
	key           int   // of a leaf
	count, height int
	whole         measure // of a leaf: the item's mark as it was given
}

func (n *node) leaf() bool { return n.left == nil }

func (n *node) item() Item { return Item{Key: n.key, Mark: n.whole.sum} }

func sprout(x Item) *node {
	return &node{key: x.Key, count: 1, height: 1, whole: measure{sum: x.Mark}}
}

func fork(left, right *node) *node {
	return &node{
		left:   left,
		right:  right,
		count:  both(left.count, right.count),
		height: 1 + max(left.height, right.height),
		whole:  add(left.whole, right.whole),
	}
}

// both adds two counts that aren't below 0. It stops at the greatest number: a
// rope joined with itself again and again soon has more items than an int can
// tell, and a count below 0 would make it seem empty.
func both(a, b int) int {
	if a > math.MaxInt-b {
		return math.MaxInt
	}
	return a + b
}

func grow(items []Item) *node {
	switch len(items) {
	case 0:
		return nil
	case 1:
		return sprout(items[0])
	}
	half := len(items) / 2
	return fork(grow(items[:half]), grow(items[half:]))
}

// join hangs the lower tree into the higher one's side, where the heights are near each other.
func join(left, right *node) *node {
	switch {
	case left == nil:
		return right
	case right == nil:
		return left
	case left.height > right.height+1:
		return level(left.left, join(left.right, right))
	case right.height > left.height+1:
		return level(join(left, right.left), right.right)
	}
	return fork(left, right)
}

// level forks two trees whose heights differ by two at most, so that those of the branches differ by one at most.
func level(left, right *node) *node {
	switch {
	case right.height > left.height+1 && right.left.height > right.right.height:
		mid := right.left
		return fork(fork(left, mid.left), fork(mid.right, right.right))
	case right.height > left.height+1:
		return fork(fork(left, right.left), right.right)
	case left.height > right.height+1 && left.right.height > left.left.height:
		mid := left.right
		return fork(fork(left.left, mid.left), fork(mid.right, right))
	case left.height > right.height+1:
		return fork(left.left, fork(left.right, right))
	}
	return fork(left, right)
}

func split(n *node, i int) (front, back *node) {
	switch {
	case n == nil || i <= 0:
		return nil, n
	case i >= n.count:
		return n, nil
	case i < n.left.count:
		front, back = split(n.left, i)
		return front, join(back, n.right)
	}
	front, back = split(n.right, i-n.left.count)
	return join(n.left, front), back
}

func gather(to []Item, n *node) []Item {
	switch {
	case n == nil:
		return to
	case n.leaf():
		return append(to, n.item())
	}
	return gather(gather(to, n.left), n.right)
}
