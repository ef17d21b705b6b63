package update

import (
	"math"
	"slices"
	"testing"

	"versionmap/api"
	"versionmap/reserve"
	"versionmap/shape"
	"versionmap/treetest"
)

// insertAround inserts a key that the tree contains, and those beside it. All kinds of insertions require the same slots.
func (f fixture) insertAround(root uint32, e api.Entry) {
	f.T.Helper()
	f.Discard(f.insert(root, e))
	f.Discard(f.increase(root, e.Key, 0))
	f.Discard(f.increase(root, e.Key, -3))
	for d := int64(-1); d <= 1; d++ {
		f.Discard(f.insert(root, api.Entry{Key: e.Key + d, Value: 5 * d}))
	}
	f.Discard(f.increase(root, e.Key+1, e.Value))
}

// deleteAround deletes a key that the tree contains, and tries to delete those beside it.
func (f fixture) deleteAround(root uint32, key int64) {
	f.T.Helper()
	for d := int64(-1); d <= 1; d++ {
		f.Discard(f.delete(root, key+d))
	}
}

// updateAll has some positions of a tree, with as many free slots as each function requires, and with one slot too few.
func updateAll(t *testing.T, s *treetest.Tree, positions []int) {
	t.Helper()
	n := s.Size()
	entries := treetest.Spaced(n)
	most := max(reserve.Insert(n), reserve.Delete(n))
	f, root := plantWith(t, s, entries, most)
	for missing := range 2 {
		f.Leave(reserve.Insert(n) - missing)
		for _, at := range positions {
			f.insertAround(root, entries[at])
		}
		f.Leave(reserve.Delete(n) - missing)
		for _, at := range positions {
			f.deleteAround(root, entries[at].Key)
		}
	}
}

func TestExample(t *testing.T) {
	f, root := plantWith(t, treetest.Full(2), []api.Entry{{Key: 1, Value: 10}, {Key: 2, Value: 21}}, 50)
	got, value, found, err := Insert(f.Arena, root, api.Entry{Key: 2, Value: 20})
	want := []api.Entry{{Key: 1, Value: 10}, {Key: 2, Value: 20}}
	if list := treetest.Listing(f.Arena.Dump(), got); !slices.Equal(list, want) || value != 21 || !found || err != api.OK {
		t.Errorf("P14.1: %v, %d, %t, %d", list, value, found, err)
	}
	if got, value, err := Delete(f.Arena, root, 3); got != 0 || value != 0 || err != api.ErrNotFound {
		t.Errorf("P14.2: %d, %d, %d", got, value, err)
	}
}

func TestSmallTrees(t *testing.T) {
	for _, s := range treetest.UpTo(9) {
		updateAll(t, s, treetest.Some(s.Size(), 100))
	}
}

func TestManyTrees(t *testing.T) {
	for _, s := range treetest.Many(900) {
		updateAll(t, s, treetest.Some(s.Size(), 12))
	}
}

// TestHighTrees has the highest trees that fit into an arena. The end of the longest path, where a tree is thin on every level, is among the positions.
func TestHighTrees(t *testing.T) {
	for _, way := range treetest.Turns() {
		s := treetest.Thinnest(36, way)
		updateAll(t, s, []int{s.Deepest()})
	}
	n := treetest.Largest(reserve.Insert)
	updateAll(t, treetest.Full(n), []int{0, n / 2})
}

// TestEmptyTree has the first entry and the last one.
func TestEmptyTree(t *testing.T) {
	for _, e := range []api.Entry{{}, {Key: 5}, {Key: -5, Value: 7}, {Key: math.MinInt64, Value: math.MaxInt64}, {Key: math.MaxInt64, Value: math.MinInt64}} {
		f := newFixture(t, 1+reserve.Delete(1))
		f.delete(0, e.Key)
		root, _ := f.insert(0, e)
		f.Discard(f.increase(0, e.Key, e.Value))
		f.insert(root, e)
		f.delete(root, e.Key+1)
		if empty, err := f.delete(root, e.Key); empty != 0 || err != api.OK {
			t.Errorf("P14.2: %v: %d, %d", e, empty, err)
		}
	}
}

// TestFreeSlots has all numbers of free slots up to those that are required.
func TestFreeSlots(t *testing.T) {
	for _, c := range []struct{ n, insert, delete int }{{0, 12, 8}, {1, 16, 12}, {2, 20, 16}, {3, 20, 20}, {4, 24, 20}, {5, 24, 24}, {9, 32, 28}, {20, 40, 40}} {
		entries := treetest.Spaced(c.n)
		f, root := plantWith(t, treetest.Full(c.n), entries, c.insert)
		for free := c.insert; free >= 0; free-- {
			f.Leave(free)
			want := api.OK
			if free < c.insert {
				want = api.ErrFull
			}
			got, err := f.insert(root, api.Entry{Key: 1, Value: 2})
			f.Discard(got, err)
			sum, alike := f.increase(root, 1, 2)
			f.Discard(sum, alike)
			if err != want || alike != want {
				t.Errorf("P14.1, P14.3: %d keys, %d free: %d, %d", c.n, free, err, alike)
			}
			if c.n == 0 {
				continue
			}
			got, err = f.delete(root, entries[c.n/3].Key)
			if (err == api.OK) != (free >= c.delete) {
				t.Errorf("P14.2: %d keys, %d free: %d", c.n, free, err)
			}
			f.Discard(got, err)
		}
	}
}

// TestFullArena has a tree that uses every slot.
func TestFullArena(t *testing.T) {
	for _, n := range []int{1, 2, 10, 1000, api.MaxSlots} {
		entries := treetest.Spaced(n)
		f, root := plantWith(t, treetest.Full(n), entries, 0)
		for _, at := range []int{0, n / 2, n - 1} {
			f.insertAround(root, entries[at])
			f.deleteAround(root, entries[at].Key)
		}
		if got, err := f.insert(root, entries[n/2]); got != root || err != api.OK {
			t.Errorf("P14.1: %d keys and their entry: %d, %d", n, got, err)
		}
		if _, err := f.delete(root, entries[n/2].Key); err != api.ErrFull {
			t.Errorf("P14.2: %d keys: %d", n, err)
		}
		if _, err := f.delete(root, entries[n/2].Key+1); err != api.ErrNotFound {
			t.Errorf("P14.2: %d keys and another one: %d", n, err)
		}
	}
}

// TestExtremeKeys has all trees whose keys are among some at the ends of the integers and around 0.
func TestExtremeKeys(t *testing.T) {
	for _, entries := range treetest.ExtremeLists() {
		f, root := plantWith(t, treetest.Full(len(entries)), entries, 60)
		for _, key := range treetest.Extremes() {
			for _, value := range treetest.Extremes() {
				f.Discard(f.insert(root, api.Entry{Key: key, Value: value}))
				f.Discard(f.increase(root, key, value))
			}
			f.Discard(f.delete(root, key))
		}
	}
}

// TestSums has sums that wrap around, and a sum of 0, which is a value and no absent key.
func TestSums(t *testing.T) {
	for _, c := range []struct{ value, by, sum int64 }{
		{7, -9, -2},
		{7, -7, 0},
		{0, 0, 0},
		{math.MaxInt64, 1, math.MinInt64},
		{math.MinInt64, -1, math.MaxInt64},
		{math.MaxInt64, math.MaxInt64, -2},
		{math.MinInt64, math.MinInt64, 0},
		{-1, math.MinInt64, math.MaxInt64},
		{math.MinInt64, math.MaxInt64, -1},
	} {
		f, root := plantWith(t, treetest.Full(1), []api.Entry{{Key: 4, Value: c.value}}, 40)
		got, value, err := Increase(f.Arena, root, 4, c.by)
		f.Held = append(f.Held, got)
		want := []api.Entry{{Key: 4, Value: c.sum}}
		if list := treetest.Listing(f.Arena.Dump(), got); value != c.sum || err != api.OK || !slices.Equal(list, want) {
			t.Errorf("P14.3: %d and %d: %v, %d, %d", c.value, c.by, list, value, err)
		}
		f.increase(root, 5, c.by)
		f.increase(root, 3, 0)
	}
}

// TestZero tells an absent key from one with the value 0.
func TestZero(t *testing.T) {
	f := newFixture(t, 60)
	absent, _ := f.insert(0, api.Entry{Key: 1, Value: 1})
	zero, value, found, err := Insert(f.Arena, absent, api.Entry{Key: 2})
	if zero == absent || value != 0 || found || err != api.OK {
		t.Errorf("P14.1: an absent key: %d, %d, %t, %d", zero, value, found, err)
	}
	same, value, found, err := Insert(f.Arena, zero, api.Entry{Key: 2})
	if same != zero || value != 0 || !found || err != api.OK {
		t.Errorf("P14.1: the value 0: %d, %d, %t, %d", same, value, found, err)
	}
	f.Leave(0)
	if got, value, err := Delete(f.Arena, zero, 2); got != 0 || value != 0 || err != api.ErrFull {
		t.Errorf("P14.2: the value 0: %d, %d, %d", got, value, err)
	}
	if got, value, err := Increase(f.Arena, absent, 2, 0); got != 0 || value != 0 || err != api.ErrFull {
		t.Errorf("P14.3: an absent key: %d, %d, %d", got, value, err)
	}
	if got, value, err := Increase(f.Arena, zero, 2, 0); got != zero || value != 0 || err != api.OK {
		t.Errorf("P14.3: the value 0: %d, %d, %d", got, value, err)
	}
}

// TestIncreaseInserts holds that Increase leaves an arena as Insert does.
func TestIncreaseInserts(t *testing.T) {
	for _, s := range treetest.Many(40) {
		entries := treetest.Spaced(s.Size())
		for key := int64(-70); key <= 70; key++ {
			f, root := plantWith(t, s, entries, 50)
			g, _ := plantWith(t, s, entries, 50)
			got, value, err := Increase(f.Arena, root, key, 9)
			inserted, _, _, insertErr := Insert(g.Arena, root, api.Entry{Key: key, Value: value})
			d, e := f.Arena.Dump(), g.Arena.Dump()
			if got != inserted || err != insertErr || !slices.Equal(d.Slots, e.Slots) || !slices.Equal(d.Free, e.Free) {
				t.Fatalf("P14.3: %v, %d: %d, %d, want %d, %d", entries, key, got, err, inserted, insertErr)
			}
		}
	}
}

// TestResultStays holds that a result does not need the tree it was made of.
func TestResultStays(t *testing.T) {
	for _, n := range []int{1, 2, 9, 60} {
		entries := treetest.Spaced(n)
		f, root := plantWith(t, treetest.Full(n), entries, 100)
		more, _ := f.insert(root, api.Entry{Key: 1, Value: 1})
		less, _ := f.delete(root, entries[n/2].Key)
		f.Release(root)
		f.Leave(0)
		for i, want := range map[uint32][]api.Entry{more: with(entries, api.Entry{Key: 1, Value: 1}), less: without(entries, entries[n/2].Key)} {
			if list := treetest.Listing(f.Arena.Dump(), i); !slices.Equal(list, want) || shape.Check(f.Arena, i) != api.OK {
				t.Errorf("P14.4: %v, want %v", list, want)
			}
		}
	}
}
