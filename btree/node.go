package btree

import (
	"slices"
	"strings"

	"unison/api"
)

// node is one of a tree's; next is the one behind it in its level.
type node struct {
	items []item
	next  *node
}

// item is a pair of a leaf, or a kid of another node. They are one type, so that all nodes are cut and joined alike.
// The key of a kid is its bound: greater than all keys of the kid ahead, and no greater than those of its own.
type item struct {
	key string
	val string
	kid *node
}

// pair is what a leaf's item tells, in new memory.
func (x item) pair() api.Pair { return api.Pair{Key: strings.Clone(x.key), Val: strings.Clone(x.val)} }

// asKid is the item of a node with keys or kids within the one above it.
func (n *node) asKid() item { return item{key: n.items[0].key, kid: n} }

// leaf tells whether a node lies in the last level.
func (n *node) leaf() bool { return n.firstKid() == nil }

// firstKid is a node's first one; nil: it is a leaf.
func (n *node) firstKid() *node {
	if len(n.items) == 0 {
		return nil
	}
	return n.items[0].kid
}

// find is the place of the first item that is from a key on, and whether it is that key's.
func (n *node) find(key string) (int, bool) {
	return slices.BinarySearchFunc(n.items, key, func(x item, key string) int { return strings.Compare(x.key, key) })
}

// toward is the place of the kid in which a key stands, if it is there, or is to stand.
func (n *node) toward(key string) int {
	i, bound := n.find(key)
	if bound {
		return i
	}
	return max(i-1, 0)
}

// spot is a place in a leaf or, if it is the one behind the leaf's last, the first of the next leaf; a nil node: there is none.
func (n *node) spot(i int) (*node, int) {
	if i < len(n.items) {
		return n, i
	}
	return n.next, 0
}

// fit cuts a kid into two, if it is wider than the order: each has half of it then.
func (n *node) fit(at, order int) {
	left := n.items[at].kid
	if len(left.items) <= order {
		return
	}
	half := len(left.items) / 2
	right := &node{items: slices.Clone(left.items[half:]), next: left.next}
	left.items = slices.Delete(left.items, half, len(left.items))
	left.next = right
	n.items = slices.Insert(n.items, at+1, right.asKid())
}

// join makes one of a kid and the kid behind it.
func (n *node) join(at int) {
	left, right := n.items[at].kid, n.items[at+1].kid
	left.items = append(left.items, right.items...)
	left.next = right.next
	n.items = slices.Delete(n.items, at+1, at+2)
}
