package treetest

import (
	"slices"

	"versionmap/api"
	"versionmap/arena"
	"versionmap/audit"
)

// The functions of this file make indexes that are no trees. Of calls with these, the document says only that they return.

// Chain makes a path of nodes that turns as left says, from below, and keeps a reference to its upper end. Its keys are those of a search tree, although it is not balanced.
func (f *Fixture) Chain(nodes int, left func(int) bool) uint32 {
	root := uint32(0)
	for k := range nodes {
		key := int64(2 * k)
		l, r := root, uint32(0)
		if !left(k) {
			key, l, r = -key, 0, root
		}
		root, _ = f.Arena.Make(key, 1, l, r)
		f.Arena.Release(l)
		f.Arena.Release(r)
	}
	f.Held = append(f.Held, root)
	return root
}

// Circle makes two nodes that are below each other, on the sides that are given. A caller makes them that releases references that it does not hold. On their other sides they have the same tree. The upper node, which was made first, has a smaller Size and the key 4, and the lower one the key 2.
func (f *Fixture) Circle(upperLeft, lowerLeft bool) (upper, lower uint32) {
	f.T.Helper()
	side := f.Plant(Full(10), Spaced(10))
	children := func(below uint32, left bool) (uint32, uint32) {
		if left {
			return below, side
		}
		return side, below
	}
	leaf, _ := f.Arena.Make(2, 0, 0, 0)
	l, r := children(leaf, upperLeft)
	upper, _ = f.Arena.Make(4, 0, l, r)
	f.Arena.Release(leaf)
	f.Arena.Release(leaf)
	l, r = children(upper, lowerLeft)
	lower, _ = f.Arena.Make(2, 0, l, r)
	if lower != leaf {
		f.T.Fatalf("P3.2: slot %d, want %d", lower, leaf)
	}
	return upper, lower
}

// Dismiss holds that nothing is lost in the arena, although calls had an index that is no tree, and releases their results.
func (f *Fixture) Dismiss(results []uint32) {
	f.T.Helper()
	if found := audit.Check(f.Arena.Dump(), slices.Concat(results, f.Held)); len(found) > 0 {
		f.T.Fatalf("P50.2: %v", found)
	}
	for _, i := range results {
		f.Arena.Release(i)
	}
}

// SameCounts runs calls in an arena in which children may be missing or nodes in circles, and holds that all counts are as they were when the results are released.
func SameCounts(t T, a *arena.Arena, calls func() []uint32) {
	t.Helper()
	before := Counts(a)
	results := calls()
	for _, i := range results {
		if i != 0 && a.Count(i) == 0 {
			t.Fatalf("P5.2: the results %d are not all indexes", results)
		}
		a.Release(i)
	}
	if after := Counts(a); !slices.Equal(before, after) {
		t.Fatalf("P50.2: the counts %d have become %d", before, after)
	}
}

// Counts returns the reference counts of all slots.
func Counts(a *arena.Arena) []int {
	var list []int
	for _, s := range a.Dump().Slots {
		list = append(list, s.Count)
	}
	return list
}

// Tangle makes and releases nodes, and also releases references that nobody holds, so that children are missing or nodes are in circles. After each step, it calls visit with a function that picks one of the indexes.
func Tangle(a *arena.Arena, steps int, next func(int) int, visit func(pick func() uint32)) {
	indexes := []uint32{0, uint32(a.Capacity() + 1)}
	pick := func() uint32 { return indexes[next(len(indexes))] }
	for range steps {
		if i, err := a.Make(int64(next(9)), 0, pick(), pick()); err == api.OK {
			indexes = append(indexes, i)
		}
		if len(indexes) > 9 {
			a.Release(indexes[2])
			indexes = slices.Delete(indexes, 2, 3)
		}
		a.Release(pick())
		visit(pick)
	}
}
