package join

import (
	"versionmap/api"
	"versionmap/arena"
	"versionmap/balance"
	"versionmap/shape"
)

// link returns a tree with the entries of left, the entry e, and the entries of right, which are in this order. It goes down the heavier tree, on the side of the lighter one, to the first subtree that balances the lighter one.
func link(a *arena.Arena, left uint32, e api.Entry, right uint32) (uint32, api.Errno) {
	l, r := a.Size(left), a.Size(right)
	switch {
	case shape.Balanced(l, r):
		return a.Make(e.Key, e.Value, left, right)
	case l < r:
		return linkLeft(a, left, e, right)
	}
	return linkRight(a, left, e, right)
}

// linkLeft puts left and e before the entries of right, which is the heavier tree.
func linkLeft(a *arena.Arena, left uint32, e api.Entry, right uint32) (uint32, api.Errno) {
	node, err := read(a, right)
	if err != api.OK {
		return 0, err
	}
	inner, err := link(a, left, e, node.Left)
	if err != api.OK {
		return 0, err
	}
	return withLeft(a, inner, node)
}

// linkRight puts e and right behind the entries of left, which is the heavier tree.
func linkRight(a *arena.Arena, left uint32, e api.Entry, right uint32) (uint32, api.Errno) {
	node, err := read(a, left)
	if err != api.OK {
		return 0, err
	}
	inner, err := link(a, node.Right, e, right)
	if err != api.OK {
		return 0, err
	}
	return withRight(a, node, inner)
}

// withLeft returns a tree with another left subtree than node has. It takes over the reference to left.
func withLeft(a *arena.Arena, left uint32, node api.Node) (uint32, api.Errno) {
	result, err := balance.Make(a, left, entry(node), node.Right)
	a.Release(left)
	return result, err
}

// withRight returns a tree with another right subtree than node has. It takes over the reference to right.
func withRight(a *arena.Arena, node api.Node, right uint32) (uint32, api.Errno) {
	result, err := balance.Make(a, node.Left, entry(node), right)
	a.Release(right)
	return result, err
}

// read returns the node in slot i, or ErrInvalid if a child is missing or not smaller than the node. Trees have no such nodes, but a caller makes them that releases references it does not hold. Every circle of nodes contains one, so that no way down is endless.
func read(a *arena.Arena, i uint32) (api.Node, api.Errno) {
	node, ok := a.Node(i)
	if !ok || !isBelow(a, node.Left, node) || !isBelow(a, node.Right, node) {
		return api.Node{}, api.ErrInvalid
	}
	return node, api.OK
}

func isBelow(a *arena.Arena, child uint32, node api.Node) bool {
	size := a.Size(child)
	return child == 0 || size > 0 && size < node.Size
}

func entry(node api.Node) api.Entry {
	return api.Entry{Key: node.Key, Value: node.Value}
}
