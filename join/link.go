package join

import (
	"versionmap/api"
	"versionmap/arena"
	"versionmap/rotate"
	"versionmap/shape"
)

// link returns a tree with the entries of left, the entry e, and the entries of right, which are in this order. It goes down the heavier tree, on the side of the lighter one, to the first subtree that balances the lighter one.
func link(a *arena.Arena, left uint32, e api.Entry, right uint32) (uint32, api.Errno) {
	l, r := a.Size(left), a.Size(right)
	switch {
	case shape.Balanced(l, r):
		return a.Make(e.Key, e.Value, left, right)
	case l < r:
		return linkLeft(a, left, e, right)
	}
	return linkRight(a, left, e, right)
}

// linkLeft puts left and e before the entries of right, which is the heavier tree.
func linkLeft(a *arena.Arena, left uint32, e api.Entry, right uint32) (uint32, api.Errno) {
	node, err := read(a, right)
	if err != api.OK {
		return 0, err
	}
	inner, err := link(a, left, e, node.Left)
	if err != api.OK {
		return 0, err
	}
	return withLeft(a, inner, node)
}

// linkRight puts e and right behind the entries of left, which is the heavier tree.
func linkRight(a *arena.Arena, left uint32, e api.Entry, right uint32) (uint32, api.Errno) {
	node, err := read(a, left)
	if err != api.OK {
		return 0, err
	}
	inner, err := link(a, node.Right, e, right)
	if err != api.OK {
		return 0, err
	}
	return withRight(a, node, inner)
}

// withLeft returns a tree with another left subtree than node has. It takes over the reference to left.
func withLeft(a *arena.Arena, left uint32, node api.Node) (uint32, api.Errno) {
	result, err := balance(a, left, entry(node), node.Right)
	a.Release(left)
	return result, err
}

// withRight returns a tree with another right subtree than node has. It takes over the reference to right.
func withRight(a *arena.Arena, node api.Node, right uint32) (uint32, api.Errno) {
	result, err := balance(a, node.Left, entry(node), right)
	a.Release(right)
	return result, err
}

// balance makes a node, and rotates it if one of the subtrees is too heavy.
func balance(a *arena.Arena, left uint32, e api.Entry, right uint32) (uint32, api.Errno) {
	root, err := a.Make(e.Key, e.Value, left, right)
	l, r := a.Size(left), a.Size(right)
	if err != api.OK || shape.Balanced(l, r) {
		return root, err
	}
	var result uint32
	if l < r {
		heavy, _ := a.Node(right)
		result, err = rotateLeft(a, root, l, heavy)
	} else {
		heavy, _ := a.Node(left)
		result, err = rotateRight(a, root, heavy, r)
	}
	a.Release(root)
	return result, err
}

// rotateLeft rotates root, whose right child is too heavy for the light keys on the left.
func rotateLeft(a *arena.Arena, root uint32, light int, heavy api.Node) (uint32, api.Errno) {
	if singleBalances(light, a.Size(heavy.Left), a.Size(heavy.Right)) {
		return rotate.Left(a, root)
	}
	return rotate.DoubleLeft(a, root)
}

// rotateRight rotates root, whose left child is too heavy for the light keys on the right.
func rotateRight(a *arena.Arena, root uint32, heavy api.Node, light int) (uint32, api.Errno) {
	if singleBalances(light, a.Size(heavy.Right), a.Size(heavy.Left)) {
		return rotate.Right(a, root)
	}
	return rotate.DoubleRight(a, root)
}

// singleBalances reports whether both nodes of a single rotation are balanced. If they are not, the three of a double rotation are: this holds for every tree that weighs more than three and at most four times as much as the light one, and for the few heavier ones that link and withoutFirst can make (TestRotations).
func singleBalances(light, inner, outer int) bool {
	return shape.Balanced(light, inner) && shape.Balanced(light+1+inner, outer)
}

// read returns the node in slot i, or ErrInvalid if a child is missing or not smaller than the node. Trees have no such nodes, but a caller makes them that releases references it does not hold. Every circle of nodes contains one, so that no way down is endless.
func read(a *arena.Arena, i uint32) (api.Node, api.Errno) {
	node, ok := a.Node(i)
	if !ok || !isBelow(a, node.Left, node) || !isBelow(a, node.Right, node) {
		return api.Node{}, api.ErrInvalid
	}
	return node, api.OK
}

func isBelow(a *arena.Arena, child uint32, node api.Node) bool {
	size := a.Size(child)
	return child == 0 || size > 0 && size < node.Size
}

func entry(node api.Node) api.Entry {
	return api.Entry{Key: node.Key, Value: node.Value}
}
