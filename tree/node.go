package tree

import "flint/api"

// node is a key with its value, between those ahead of it (left) and those behind it (right).
// Trees share nodes, so none is written to once it is made. Those on its two sides differ by 1 in height at most.
type node struct {
	pair        api.Pair
	left, right *node
	count, high int
}

// size is how many keys there are from this node on downwards.
func (n *node) size() int {
	if n == nil {
		return 0
	}
	return n.count
}

// height is how many of these stand below each other at most.
func (n *node) height() int {
	if n == nil {
		return 0
	}
	return n.high
}

// towards is the side on which a key stands that is another one than the node's.
func (n *node) towards(key string) *node {
	if key < n.pair.Key {
		return n.left
	}
	return n.right
}

// set is the node with this key and value in it.
func (n *node) set(p api.Pair) *node {
	switch {
	case n == nil:
		return join(nil, p, nil)
	case p.Key < n.pair.Key:
		return balance(n.left.set(p), n.pair, n.right)
	case p.Key > n.pair.Key:
		return balance(n.left, n.pair, n.right.set(p))
	}
	return join(n.left, p, n.right)
}

// cut is the node without a key that is there.
func (n *node) cut(key string) *node {
	switch {
	case key < n.pair.Key:
		return balance(n.left.cut(key), n.pair, n.right)
	case key > n.pair.Key:
		return balance(n.left, n.pair, n.right.cut(key))
	case n.right == nil:
		return n.left
	}
	next := n.right.first()
	return balance(n.left, next, n.right.cut(next.Key))
}

// first is the least key, with its value.
func (n *node) first() api.Pair {
	for n.left != nil {
		n = n.left
	}
	return n.pair
}

// gather puts behind a list what stands from one key on, up to another one.
func (n *node) gather(l []api.Pair, from, to string) []api.Pair {
	if n == nil {
		return l
	}
	key := n.pair.Key
	if from < key {
		l = n.left.gather(l, from, to)
	}
	if from <= key && key < to {
		l = append(l, n.pair)
	}
	if key < to {
		l = n.right.gather(l, from, to)
	}
	return l
}

// join is a new node between two others.
func join(left *node, p api.Pair, right *node) *node {
	return &node{
		pair:  p,
		left:  left,
		right: right,
		count: left.size() + 1 + right.size(),
		high:  max(left.height(), right.height()) + 1,
	}
}

// balance is the same of two that may differ by 2 in height.
func balance(left *node, p api.Pair, right *node) *node {
	switch {
	case left.height() > right.height()+1:
		return leanRight(left, p, right)
	case right.height() > left.height()+1:
		return leanLeft(left, p, right)
	}
	return join(left, p, right)
}

// leanRight is the same, with one key of the left side, which is too high, on top.
func leanRight(left *node, p api.Pair, right *node) *node {
	inner := left.right
	if inner.height() <= left.left.height() {
		return join(left.left, left.pair, join(inner, p, right))
	}
	// The inner part is the higher one: as a whole it would be too high on the other side, too, so it is parted.
	return join(join(left.left, left.pair, inner.left), inner.pair, join(inner.right, p, right))
}

// leanLeft is the same, with one key of the right side, which is too high, on top.
func leanLeft(left *node, p api.Pair, right *node) *node {
	inner := right.left
	if inner.height() <= right.right.height() {
		return join(join(left, p, inner), right.pair, right.right)
	}
	return join(join(left, p, inner.left), inner.pair, join(inner.right, right.pair, right.right))
}
