package join

import (
	"math"
	"testing"

	"versionmap/api"
	"versionmap/reserve"
	"versionmap/shape"
	"versionmap/treetest"
)

// splitAround splits a tree at a key, and next to it.
func (f fixture) splitAround(root uint32, key int64) {
	f.T.Helper()
	for d := int64(-1); d <= 1; d++ {
		if less, greater, err := f.split(root, key+d); err == api.OK {
			f.Release(less, greater)
		}
	}
}

// splitAll splits a tree at some of its keys and at the ends of the integers, with as many free slots as that requires, and at fewer keys with one slot too few.
func splitAll(t *testing.T, s *treetest.Tree, positions []int) {
	t.Helper()
	n := s.Size()
	entries := treetest.Spaced(n)
	f := newFixture(t, n+reserve.Split(n))
	root := f.Plant(s, entries)
	ends := []int64{math.MinInt64 + 1, math.MaxInt64 - 1}
	for _, at := range positions {
		f.splitAround(root, entries[at].Key)
	}
	for _, key := range ends {
		f.splitAround(root, key)
	}
	f.Leave(reserve.Split(n) - 1)
	for _, at := range positions[:min(3, len(positions))] {
		f.splitAround(root, entries[at].Key)
	}
	f.Leave(0)
	for _, key := range ends {
		f.splitAround(root, key)
	}
}

func TestSplitSmallTrees(t *testing.T) {
	for _, s := range treetest.UpTo(9) {
		splitAll(t, s, treetest.Some(s.Size(), 100))
	}
}

func TestSplitManyTrees(t *testing.T) {
	for _, s := range treetest.Many(700) {
		splitAll(t, s, treetest.Some(s.Size(), 25))
	}
}

// TestSplitHighTrees has the highest trees for which an arena has enough slots, and cuts their longest path everywhere.
func TestSplitHighTrees(t *testing.T) {
	for _, way := range treetest.Turns() {
		s := treetest.Thinnest(35, way)
		at := s.Deepest()
		splitAll(t, s, []int{at, s.Size() / 2})
	}
	n := treetest.Largest(reserve.Split)
	splitAll(t, treetest.Full(n), treetest.Some(n, 3))
}

// TestSplitWithoutSlots has the cases for which no slot is required, with a tree that uses every slot, and those beside them.
func TestSplitWithoutSlots(t *testing.T) {
	for _, n := range []int{1, 2, 3, 10, 1000, api.MaxSlots} {
		f := newFixture(t, n)
		entries := treetest.Spaced(n)
		first, last := entries[0].Key, entries[n-1].Key
		root := f.Plant(treetest.Full(n), entries)
		for _, key := range []int64{math.MinInt64, first - 1, last + 1, math.MaxInt64} {
			if _, _, err := f.split(root, key); err != api.OK {
				t.Errorf("P13.3: %d outside of %d keys: %d", key, n, err)
			}
		}
		for _, key := range []int64{first, last, entries[n/2].Key, first + 1, last - 1} {
			if _, _, err := f.split(root, key); n > 1 && err != api.ErrFull {
				t.Errorf("P13.3: %d among %d keys: %d", key, n, err)
			}
		}
		if _, _, err := f.split(0, 0); err != api.OK {
			t.Errorf("P13.3: the empty tree: %d", err)
		}
	}
}

// TestSplitFreeSlots has all numbers of free slots around those that are required.
func TestSplitFreeSlots(t *testing.T) {
	for n, required := range map[int]int{1: 36, 2: 48, 5: 72, 9: 84, 20: 120} {
		f := newFixture(t, n+required)
		entries := treetest.Spaced(n)
		root := f.Plant(treetest.Full(n), entries)
		for free := range required + 1 {
			f.Leave(free)
			less, greater, err := f.split(root, entries[n/2].Key)
			if (err == api.OK) != (free == required) {
				t.Errorf("P13.3: %d keys, %d free: %d", n, free, err)
			}
			if err == api.OK {
				f.Release(less, greater)
			}
		}
	}
}

// TestSplitOneEntry has a tree of one entry, whose parts are both empty.
func TestSplitOneEntry(t *testing.T) {
	for _, e := range []api.Entry{{Key: 5, Value: 50}, {Key: 0, Value: 0}, {Key: math.MinInt64, Value: -1}, {Key: math.MaxInt64, Value: 1}} {
		f := newFixture(t, 1+reserve.Split(1))
		root := f.Plant(treetest.Full(1), []api.Entry{e})
		less, value, found, greater, err := Split(f.Arena, root, e.Key)
		if less != 0 || value != e.Value || !found || greater != 0 || err != api.OK {
			t.Errorf("P13.3: %v: %d, %d, %t, %d, %d", e, less, value, found, greater, err)
		}
		f.split(root, math.MinInt64)
		f.split(root, math.MaxInt64)
	}
}

// TestSplitAndJoin holds that the parts make up the tree again.
func TestSplitAndJoin(t *testing.T) {
	const n = 200
	f := newFixture(t, 2000)
	entries := treetest.Spaced(n)
	root := f.Plant(treetest.Full(n), entries)
	for _, e := range entries {
		less, greater, _ := f.split(root, e.Key)
		joined, _ := f.join(less, e, greater)
		without, _ := f.concat(less, greater)
		if f.Arena.Size(joined) != n || f.Arena.Size(without) != n-1 {
			t.Fatalf("P13.1, P13.2: %d and %d keys", f.Arena.Size(joined), f.Arena.Size(without))
		}
		f.Release(root, less, greater, without)
		root = joined
	}
	if shape.Check(f.Arena, root) != api.OK || f.Arena.Free() != 2000-n {
		t.Errorf("P13.5: %d free", f.Arena.Free())
	}
}
