package bulk

import (
	"versionmap/api"
	"versionmap/arena"
	"versionmap/join"
	"versionmap/lookup"
	"versionmap/rank"
	"versionmap/reserve"
)

// Keep returns a tree with the entries whose keys are from lo to hi, both included.
func Keep(a *arena.Arena, root uint32, lo, hi int64) (uint32, api.Errno) {
	n, inside := a.Size(root), rank.Count(a, root, lo, hi)
	switch {
	case inside == 0:
		return 0, api.OK
	case inside == n:
		return root, a.Retain(root)
	case a.Free() < reserve.Split(n):
		return 0, api.ErrFull
	}
	last, _ := lookup.Floor(a, root, hi)
	rest, err := upTo(a, lookup.Path(a, root, last.Key))
	if err != api.OK {
		return 0, err
	}
	first, _ := lookup.Ceiling(a, rest, lo)
	result, err := startingAt(a, lookup.Path(a, rest, first.Key))
	a.Release(rest)
	return result, err
}

// Drop returns a tree with the entries whose keys are less than lo or greater than hi.
func Drop(a *arena.Arena, root uint32, lo, hi int64) (uint32, api.Errno) {
	n, inside := a.Size(root), rank.Count(a, root, lo, hi)
	switch {
	case inside == n:
		return 0, api.OK
	case inside == 0:
		return root, a.Retain(root)
	case a.Free() < reserve.Split(n):
		return 0, api.ErrFull
	}
	less, err := below(a, root, lo)
	if err != api.OK {
		return 0, err
	}
	greater, err := above(a, root, hi)
	if err != api.OK {
		a.Release(less)
		return 0, err
	}
	result, err := join.Concat(a, less, greater)
	a.Release(less)
	a.Release(greater)
	return result, err
}

// below returns a tree with the entries whose keys are less than key.
func below(a *arena.Arena, root uint32, key int64) (uint32, api.Errno) {
	last, found := lookup.Below(a, root, key)
	if !found {
		return 0, api.OK
	}
	return upTo(a, lookup.Path(a, root, last.Key))
}

// above returns a tree with the entries whose keys are greater than key.
func above(a *arena.Arena, root uint32, key int64) (uint32, api.Errno) {
	first, found := lookup.Above(a, root, key)
	if !found {
		return 0, api.OK
	}
	return startingAt(a, lookup.Path(a, root, first.Key))
}

// upTo returns a tree with the entries of the tree at the start of path up to that of the node at its end.
func upTo(a *arena.Arena, path []uint32) (uint32, api.Errno) {
	if len(path) == 0 {
		return 0, api.OK
	}
	node, _ := a.Node(path[0])
	rest, err := upTo(a, path[1:])
	if err != api.OK || leadsTo(path, node.Left) {
		return rest, err
	}
	result, err := withSubtrees(a, path[0], node.Left, rest)
	a.Release(rest)
	return result, err
}

// startingAt returns a tree with the entries of the tree at the start of path from that of the node at its end on.
func startingAt(a *arena.Arena, path []uint32) (uint32, api.Errno) {
	if len(path) == 0 {
		return 0, api.OK
	}
	node, _ := a.Node(path[0])
	rest, err := startingAt(a, path[1:])
	if err != api.OK || leadsTo(path, node.Right) {
		return rest, err
	}
	result, err := withSubtrees(a, path[0], rest, node.Right)
	a.Release(rest)
	return result, err
}

// leadsTo reports whether the second node of path is child.
func leadsTo(path []uint32, child uint32) bool {
	return len(path) > 1 && path[1] == child
}

// withSubtrees returns a tree with the entry of root between the entries of left and right. It is root itself if these are its subtrees. Keep and Drop reserve three times as many slots as a join requires, and what they have made before it takes up less than the rest.
func withSubtrees(a *arena.Arena, root, left, right uint32) (uint32, api.Errno) {
	node, _ := a.Node(root)
	if node.Left == left && node.Right == right {
		return root, a.Retain(root)
	}
	return join.Join(a, left, entry(node), right)
}
