package table

import "strings"

// node is a key with what it has, and the trees of the keys below it and above it.
// The heights of the two differ by at most one, so that a key is found in few steps in whatever order keys were put.
type node[V any] struct {
	key       string
	has       V
	low, high *node[V]
	height    int
}

// with is the tree with one more node, whose key is not in it yet.
func (n *node[V]) with(more *node[V]) *node[V] {
	if n == nil {
		return more
	}
	if more.key < n.key {
		n.low = n.low.with(more)
	} else {
		n.high = n.high.with(more)
	}
	return n.levelled()
}

// without is the tree without the node of a key, which must be in it. That node itself is let be: what it has is still asked for.
func (n *node[V]) without(key string) *node[V] {
	switch side := strings.Compare(key, n.key); {
	case side < 0:
		n.low = n.low.without(key)
	case side > 0:
		n.high = n.high.without(key)
	default:
		return n.joined()
	}
	return n.levelled()
}

// joined is the tree of what stands below and above a node, without the node.
func (n *node[V]) joined() *node[V] {
	if n.low == nil {
		return n.high
	}
	if n.high == nil {
		return n.low
	}
	top := n.high.first()
	top.high = n.high.without(top.key)
	top.low = n.low
	return top.levelled()
}

// first is the node of the least key.
func (n *node[V]) first() *node[V] {
	for n.low != nil {
		n = n.low
	}
	return n
}

// tall is a tree's height; a tree without a node has none.
func (n *node[V]) tall() int {
	if n == nil {
		return 0
	}
	return n.height
}

// measure sets a node's height by those of its two trees.
func (n *node[V]) measure() {
	n.height = 1 + max(n.low.tall(), n.high.tall())
}

// levelled is the tree whose two sides differ again by at most one, where they differ by at most two.
func (n *node[V]) levelled() *node[V] {
	n.measure()
	switch n.low.tall() - n.high.tall() {
	case 2:
		// What stands between the two would go over as it is, and make the other side too tall.
		if n.low.high.tall() > n.low.low.tall() {
			n.low = n.low.highUp()
		}
		return n.lowUp()
	case -2:
		if n.high.low.tall() > n.high.high.tall() {
			n.high = n.high.lowUp()
		}
		return n.highUp()
	}
	return n
}

// lowUp is the same keys with the low side's node on top.
func (n *node[V]) lowUp() *node[V] {
	top := n.low
	n.low, top.high = top.high, n
	n.measure()
	top.measure()
	return top
}

// highUp is the same keys with the high side's node on top.
func (n *node[V]) highUp() *node[V] {
	top := n.high
	n.high, top.low = top.low, n
	n.measure()
	top.measure()
	return top
}
