package treetest

import (
	"math"
	"slices"

	"versionmap/api"
	"versionmap/arena"
	"versionmap/audit"
)

// The functions of this file make indexes that are no trees. Of calls with these, the document says only that they return.

// NoIndexes returns numbers that are no indexes of an empty arena.
func NoIndexes() []uint32 {
	return []uint32{1, 2, 61, 200, 201, api.MaxSlots, api.MaxSlots + 1, 1<<17 + 1, 1 << 31, 1<<31 + 1, math.MaxUint32}
}

// Chains visits chains of several lengths, which turn left, right, or both ways. Beside each, more slots are free than it has nodes.
func Chains(t T, visit func(f *Fixture, root uint32, nodes int)) {
	t.Helper()
	for _, nodes := range []int{20, 500, 30000} {
		for _, left := range []func(int) bool{
			func(int) bool { return true },
			func(int) bool { return false },
			func(k int) bool { return k%2 == 0 },
		} {
			f := New(t, 2*nodes+2000)
			visit(f, f.Chain(nodes, left), nodes)
		}
	}
}

// Doubled visits nodes that are both children of the next one, up to 2^31 - 1 entries, with keys in all orders. The last one is visited again with few free slots.
func Doubled(t T, visit func(f *Fixture, root uint32)) {
	t.Helper()
	for _, step := range []int64{-1, 0, 1} {
		f := New(t, 700)
		root := uint32(0)
		for k := range int64(31) {
			root = f.Make(root, api.Entry{Key: step * k, Value: math.MaxInt64}, root)
			visit(f, root)
		}
		f.Leave(9)
		visit(f, root)
	}
}

// Circles visits the nodes of circles on all sides, in arenas with 3000 slots.
func Circles(t T, visit func(f *Fixture, root uint32)) {
	t.Helper()
	for _, sides := range [][2]bool{{true, true}, {false, false}, {true, false}, {false, true}} {
		f := New(t, 3000)
		upper, lower := f.Circle(sides[0], sides[1])
		visit(f, upper)
		visit(f, lower)
	}
}

// Chain makes a path of nodes that turns as left says, from below, and keeps a reference to its upper end. Its keys are those of a search tree, although it is not balanced.
func (f *Fixture) Chain(nodes int, left func(int) bool) uint32 {
	root := uint32(0)
	for k := range nodes {
		key := int64(2 * k)
		l, r := root, uint32(0)
		if !left(k) {
			key, l, r = -key, 0, root
		}
		root, _ = f.Arena.Make(key, 1, l, r)
		f.Arena.Release(l)
		f.Arena.Release(r)
	}
	f.Held = append(f.Held, root)
	return root
}

// Circle makes two nodes that are below each other, on the sides that are given. A caller makes them that releases references that it does not hold. On their other sides they have the same tree. The upper node, which was made first, has a smaller Size and the key 4, and the lower one the key 2.
func (f *Fixture) Circle(upperLeft, lowerLeft bool) (upper, lower uint32) {
	f.T.Helper()
	side := f.Plant(Full(10), Spaced(10))
	children := func(below uint32, left bool) (uint32, uint32) {
		if left {
			return below, side
		}
		return side, below
	}
	leaf, _ := f.Arena.Make(2, 0, 0, 0)
	l, r := children(leaf, upperLeft)
	upper, _ = f.Arena.Make(4, 0, l, r)
	f.Arena.Release(leaf)
	f.Arena.Release(leaf)
	l, r = children(upper, lowerLeft)
	lower, _ = f.Arena.Make(2, 0, l, r)
	if lower != leaf {
		f.T.Fatalf("P3.2: slot %d, want %d", lower, leaf)
	}
	return upper, lower
}

// Dismiss holds that nothing is lost in the arena, although calls had an index that is no tree, and releases their results.
func (f *Fixture) Dismiss(results []uint32) {
	f.T.Helper()
	if found := audit.Check(f.Arena.Dump(), slices.Concat(results, f.Held)); len(found) > 0 {
		f.T.Fatalf("P50.2: %v", found)
	}
	for _, i := range results {
		f.Arena.Release(i)
	}
}

// SameCounts runs calls in an arena in which children may be missing or nodes in circles, and holds that all counts are as they were when the results are released.
func SameCounts(t T, a *arena.Arena, calls func() []uint32) {
	t.Helper()
	before := Counts(a)
	results := calls()
	for _, i := range results {
		if i != 0 && a.Count(i) == 0 {
			t.Fatalf("P5.2: the results %d are not all indexes", results)
		}
		a.Release(i)
	}
	if after := Counts(a); !slices.Equal(before, after) {
		t.Fatalf("P50.2: the counts %d have become %d", before, after)
	}
}

// Counts returns the reference counts of all slots.
func Counts(a *arena.Arena) []int {
	var list []int
	for _, s := range a.Dump().Slots {
		list = append(list, s.Count)
	}
	return list
}

// Tangle makes and releases nodes, and also releases references that nobody holds, so that children are missing or nodes are in circles. After each step, it calls visit with a function that picks one of the indexes.
func Tangle(a *arena.Arena, steps int, next func(int) int, visit func(pick func() uint32)) {
	indexes := []uint32{0, uint32(a.Capacity() + 1)}
	pick := func() uint32 { return indexes[next(len(indexes))] }
	for range steps {
		if i, err := a.Make(int64(next(9)), 0, pick(), pick()); err == api.OK {
			indexes = append(indexes, i)
		}
		if len(indexes) > 9 {
			a.Release(indexes[2])
			indexes = slices.Delete(indexes, 2, 3)
		}
		a.Release(pick())
		visit(pick)
	}
}
