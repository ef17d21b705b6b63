package bulk

import (
	"math"
	"slices"
	"testing"

	"versionmap/api"
	"versionmap/reserve"
	"versionmap/shape"
	"versionmap/treetest"
)

// both keeps and drops a range.
func (f fixture) both(root uint32, lo, hi int64) {
	f.T.Helper()
	f.Discard(f.keep(root, lo, hi))
	f.Discard(f.drop(root, lo, hi))
}

// cutAll cuts ranges out of a tree that begin and end at and beside some of its keys, with as many free slots as that requires, and with one too few.
func cutAll(t *testing.T, s *treetest.Tree, positions []int) {
	t.Helper()
	n := s.Size()
	entries := treetest.Spaced(n)
	f, root := plantWith(t, s, entries, reserve.Split(n))
	for missing := range 2 {
		f.Leave(reserve.Split(n) - missing)
		for _, from := range positions {
			for _, to := range positions {
				lo, hi := entries[from].Key, entries[to].Key
				f.both(root, lo, hi)
				f.both(root, lo+1, hi-1)
				if missing == 0 {
					f.both(root, lo-1, hi)
					f.both(root, lo+1, hi+1)
				}
			}
			f.both(root, math.MinInt64, entries[from].Key)
			f.both(root, entries[from].Key, math.MaxInt64)
		}
	}
}

func TestCutSmallTrees(t *testing.T) {
	for _, s := range treetest.UpTo(8) {
		cutAll(t, s, treetest.Some(s.Size(), 100))
	}
}

func TestCutManyTrees(t *testing.T) {
	for _, s := range treetest.Many(370) {
		cutAll(t, s, treetest.Some(s.Size(), 5))
	}
}

// TestCutHighTrees has the highest trees for which an arena has enough slots, and cuts their longest path everywhere.
func TestCutHighTrees(t *testing.T) {
	for _, way := range treetest.Turns() {
		s := treetest.Thinnest(35, way)
		n, at := s.Size(), s.Deepest()
		f, root := plantWith(t, s, treetest.Spaced(n), reserve.Split(n))
		key := treetest.Spaced(n)[at].Key
		f.both(root, key, key)
		f.both(root, key+1, key+3000)
		f.both(root, key-3000, key-1)
		f.both(root, math.MinInt64, key)
		f.both(root, key, math.MaxInt64)
	}
}

// TestCutLargestTree has the largest tree for which an arena has enough slots, with exactly these and with one too few.
func TestCutLargestTree(t *testing.T) {
	n := treetest.Largest(reserve.Split)
	f, root := plantWith(t, treetest.Full(n), treetest.Spaced(n), api.MaxSlots-n)
	for missing := range 2 {
		f.Leave(reserve.Split(n) - missing)
		f.both(root, -7000, 90000)
		f.both(root, 0, 0)
	}
}

// TestCutFullArena has the cases for which no slot is required, with a tree that uses every slot, and those beside them.
func TestCutFullArena(t *testing.T) {
	for _, n := range []int{1, 2, 3, 10, 1000, api.MaxSlots} {
		entries := treetest.Spaced(n)
		f, root := plantWith(t, treetest.Full(n), entries, 0)
		first, last := entries[0].Key, entries[n-1].Key
		for _, r := range [][2]int64{{first, last}, {math.MinInt64, math.MaxInt64}, {first - 1, last}, {first, last + 1}} {
			kept, err := f.keep(root, r[0], r[1])
			dropped, alike := f.drop(root, r[0], r[1])
			if kept != root || dropped != 0 || err != api.OK || alike != api.OK {
				t.Errorf("P15.3: all of %d keys: %d, %d, %d, %d", n, kept, err, dropped, alike)
			}
		}
		for _, r := range [][2]int64{{last + 1, math.MaxInt64}, {math.MinInt64, first - 1}, {last, first - 1}, {first + 1, first + 2}, {math.MaxInt64, math.MinInt64}} {
			kept, err := f.keep(root, r[0], r[1])
			dropped, alike := f.drop(root, r[0], r[1])
			if kept != 0 || dropped != root || err != api.OK || alike != api.OK {
				t.Errorf("P15.3: none of %d keys: %d, %d, %d, %d", n, kept, err, dropped, alike)
			}
		}
		for _, r := range [][2]int64{{first + 1, last}, {first, last - 1}, {first, first}, {last, last}} {
			_, err := f.keep(root, r[0], r[1])
			_, alike := f.drop(root, r[0], r[1])
			if n > 1 && (err != api.ErrFull || alike != api.ErrFull) {
				t.Errorf("P15.3: a part of %d keys: %d, %d", n, err, alike)
			}
		}
		f.both(0, first, last)
	}
}

// TestCutFreeSlots has all numbers of free slots up to those that are required.
func TestCutFreeSlots(t *testing.T) {
	for n, required := range map[int]int{2: 48, 5: 72, 9: 84, 20: 120} {
		entries := treetest.Spaced(n)
		f, root := plantWith(t, treetest.Full(n), entries, required)
		for free := range required + 1 {
			f.Leave(free)
			kept, err := f.keep(root, entries[n/2].Key, entries[n-1].Key)
			f.Discard(kept, err)
			dropped, alike := f.drop(root, entries[0].Key, entries[n/2-1].Key)
			f.Discard(dropped, alike)
			if (err == api.OK) != (free == required) || alike != err {
				t.Errorf("P15.3: %d keys, %d free: %d, %d", n, free, err, alike)
			}
		}
	}
}

// TestCutExtremes has all ranges between keys at the ends of the integers and around 0.
func TestCutExtremes(t *testing.T) {
	for _, entries := range treetest.ExtremeLists() {
		f, root := plantWith(t, treetest.Full(len(entries)), entries, 120)
		for _, lo := range treetest.Extremes() {
			for _, hi := range treetest.Extremes() {
				f.both(root, lo, hi)
			}
		}
	}
}

// TestEmptyTree has no entries, so that all and none of them are in each range.
func TestEmptyTree(t *testing.T) {
	f := newFixture(t, 1)
	for free := range 2 {
		f.Leave(free)
		for _, lo := range treetest.Extremes() {
			for _, hi := range treetest.Extremes() {
				f.both(0, lo, hi)
			}
		}
	}
}

// TestCutSharesWhatStays holds that a cut at the end of a tree makes no node that the tree has already.
func TestCutSharesWhatStays(t *testing.T) {
	for _, s := range treetest.Many(200) {
		n := s.Size()
		if n < 3 {
			continue
		}
		entries := treetest.Spaced(n)
		f, root := plantWith(t, s, entries, 500)
		node, _ := f.Arena.Node(root)
		before := f.Arena.Free()
		for _, r := range [][2]int64{{math.MinInt64, node.Key - 1}, {node.Key + 1, math.MaxInt64}} {
			kept, err := f.keep(root, r[0], r[1])
			if err != api.OK || f.Arena.Free() != before || kept != node.Left && kept != node.Right {
				t.Errorf("%d keys: Keep returns %d, with %d new slots, not a child of the root", n, kept, before-f.Arena.Free())
			}
		}
	}
}

// TestCutResultStays holds that a result does not need the tree it was cut out of.
func TestCutResultStays(t *testing.T) {
	for _, n := range []int{2, 9, 60} {
		entries := treetest.Spaced(n)
		f, root := plantWith(t, treetest.Full(n), entries, 200)
		lo, hi := entries[n/3].Key, entries[n/2].Key
		kept, _ := f.keep(root, lo, hi)
		dropped, _ := f.drop(root, lo, hi)
		f.Release(root)
		f.Leave(0)
		for i, want := range map[uint32][]api.Entry{kept: within(entries, lo, hi), dropped: outside(entries, lo, hi)} {
			if list := treetest.Listing(f.Arena.Dump(), i); !slices.Equal(list, want) || shape.Check(f.Arena, i) != api.OK {
				t.Errorf("P15.3: %v, want %v", list, want)
			}
		}
	}
}
