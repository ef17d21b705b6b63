package setops

import (
	"versionmap/api"
	"versionmap/arena"
	"versionmap/join"
	"versionmap/reserve"
)

// operation says which keys of two trees are in the result: those that are only in the left tree, those that are only in the right one, and, if policy is valid, those that are in both.
type operation struct {
	arena     *arena.Arena
	onlyLeft  bool
	onlyRight bool
	policy    int
	unread    int // how many more nodes the left tree can have
}

// run returns the result for the trees x and y, if enough slots are free.
func run(o operation, x, y uint32) (uint32, api.Errno) {
	a := o.arena
	if result, ok := o.whole(x, y); ok {
		return share(a, result)
	}
	if a.Free() < reserve.SetOperation(a.Size(x), a.Size(y)) {
		return 0, api.ErrFull
	}
	part, err := share(a, y)
	if err != api.OK {
		return 0, err
	}
	o.unread = a.Capacity() - a.Free()
	return o.combine(x, part)
}

// whole returns x, y or 0 if the result is known to be that one before a node is read, and whether it is: if one of the trees is empty, or if they are the same and no values are added.
func (o *operation) whole(x, y uint32) (uint32, bool) {
	switch {
	case x == 0:
		return onlyIf(o.onlyRight, y), true
	case y == 0:
		return onlyIf(o.onlyLeft, x), true
	case x == y && o.policy != api.AddValues:
		return onlyIf(isPolicy(o.policy), x), true
	}
	return 0, false
}

// combine returns the result for a subtree x of the left tree and for the part y of the right one that belongs to it. It takes over the reference to y, so that no part is held for longer than it is needed: all parts and results that are held at a time have different keys, and so no more new nodes than the trees have keys. The other slots that are reserved are enough for any one split or join.
func (o *operation) combine(x, y uint32) (uint32, api.Errno) {
	if result, ok := o.whole(x, y); ok {
		result, err := share(o.arena, result)
		o.arena.Release(y)
		return result, err
	}
	node, p, err := o.divide(x, y)
	if err != api.OK {
		return 0, err
	}
	left, right, err := o.subtrees(node, p)
	if err != api.OK {
		return 0, err
	}
	result, err := o.assemble(x, node, p, left, right)
	o.arena.Release(left)
	o.arena.Release(right)
	return result, err
}

// parts are the parts of the right tree on both sides of a key of the left one.
type parts struct {
	less    uint32
	value   int64
	found   bool
	greater uint32
}

// divide returns the node of x and the parts of y on both sides of its key. It takes over the reference to y.
func (o *operation) divide(x, y uint32) (api.Node, parts, api.Errno) {
	var p parts
	node, err := o.read(x)
	if err == api.OK {
		p.less, p.value, p.found, p.greater, err = join.Split(o.arena, y, node.Key)
	}
	o.arena.Release(y)
	return node, p, err
}

// read returns the node in slot i. A tree has each allocated slot once at most. The bound ends the recursion also in circles, which a caller can make that releases references it does not hold, and where subtrees are shared many times.
func (o *operation) read(i uint32) (api.Node, api.Errno) {
	node, ok := o.arena.Node(i)
	if !ok || o.unread == 0 {
		return api.Node{}, api.ErrInvalid
	}
	o.unread--
	return node, api.OK
}

// subtrees returns the results for the children of a node and the parts on both sides of its key. It takes over the references to the parts.
func (o *operation) subtrees(node api.Node, p parts) (uint32, uint32, api.Errno) {
	left, err := o.combine(node.Left, p.less)
	if err != api.OK {
		o.arena.Release(p.greater)
		return 0, 0, err
	}
	right, err := o.combine(node.Right, p.greater)
	if err != api.OK {
		o.arena.Release(left)
		return 0, 0, err
	}
	return left, right, api.OK
}

// assemble returns a tree with the entries of left and right and, between them, the key of x if it is in the result. The tree is x itself if all of that is as it is there.
func (o *operation) assemble(x uint32, node api.Node, p parts, left, right uint32) (uint32, api.Errno) {
	value, kept := node.Value, o.onlyLeft
	if p.found {
		value, kept = merged(o.policy, node.Value, p.value)
	}
	switch {
	case !kept:
		return join.Concat(o.arena, left, right)
	case left == node.Left && right == node.Right && value == node.Value:
		return share(o.arena, x)
	}
	return join.Join(o.arena, left, api.Entry{Key: node.Key, Value: value}, right)
}

func onlyIf(kept bool, i uint32) uint32 {
	if kept {
		return i
	}
	return 0
}

// share returns index i with one more reference.
func share(a *arena.Arena, i uint32) (uint32, api.Errno) {
	if err := a.Retain(i); err != api.OK {
		return 0, err
	}
	return i, api.OK
}
