// Package balance makes the nodes of balanced trees. It is no layer of its own: layers 13 and 14 both copy paths, and a node on the way back up may have become too heavy on one side.
package balance

import (
	"versionmap/api"
	"versionmap/arena"
	"versionmap/rotate"
	"versionmap/shape"
)

// Make returns a tree with the entries of left, the entry e, and the entries of right, which are in this order, and the caller holds one reference to it. If one of the trees is too heavy, the new node is rotated; that one must not be heavier than a join, an insertion or a deletion can make it (TestRotations). Make needs one free slot, or up to four if it rotates.
func Make(a *arena.Arena, left uint32, e api.Entry, right uint32) (uint32, api.Errno) {
	root, err := a.Make(e.Key, e.Value, left, right)
	l, r := a.Size(left), a.Size(right)
	if err != api.OK || shape.Balanced(l, r) {
		return root, err
	}
	var result uint32
	if l < r {
		heavy, _ := a.Node(right)
		result, err = rotateLeft(a, root, l, heavy)
	} else {
		heavy, _ := a.Node(left)
		result, err = rotateRight(a, root, heavy, r)
	}
	a.Release(root)
	return result, err
}

// rotateLeft rotates root, whose right child is too heavy for the light keys on the left.
func rotateLeft(a *arena.Arena, root uint32, light int, heavy api.Node) (uint32, api.Errno) {
	if singleBalances(light, a.Size(heavy.Left), a.Size(heavy.Right)) {
		return rotate.Left(a, root)
	}
	return rotate.DoubleLeft(a, root)
}

// rotateRight rotates root, whose left child is too heavy for the light keys on the right.
func rotateRight(a *arena.Arena, root uint32, heavy api.Node, light int) (uint32, api.Errno) {
	if singleBalances(light, a.Size(heavy.Right), a.Size(heavy.Left)) {
		return rotate.Right(a, root)
	}
	return rotate.DoubleRight(a, root)
}

// singleBalances reports whether both nodes of a single rotation are balanced. If they are not, the three of a double rotation are: this holds for every tree that weighs more than three and at most four times as much as the light one, and for the few heavier ones that a join or a deletion can make (TestRotations).
func singleBalances(light, inner, outer int) bool {
	return shape.Balanced(light, inner) && shape.Balanced(light+1+inner, outer)
}
