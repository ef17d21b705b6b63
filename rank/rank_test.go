package rank

import (
	"math"
	"slices"
	"testing"

	"versionmap/api"
	"versionmap/arena"
	"versionmap/shape"
	"versionmap/treetest"
)

// fixture is a tree with its entries.
type fixture struct {
	arena   *arena.Arena
	root    uint32
	entries []api.Entry
}

// reading runs call and holds P10.3: at most perLevel * (MaxHeight(n) + 2) reads.
func (f fixture) reading(t *testing.T, name string, perLevel int, call func()) {
	t.Helper()
	before := f.arena.Reads()
	call()
	most := perLevel * (shape.MaxHeight(len(f.entries)) + 2)
	if reads := f.arena.Reads() - before; reads > uint64(most) {
		t.Fatalf("P10.3: %s: %d reads of a tree of %d keys, at most %d", name, reads, len(f.entries), most)
	}
}

// number returns how many keys are wanted.
func (f fixture) number(wanted func(key int64) bool) int {
	n := 0
	for _, e := range f.entries {
		if wanted(e.Key) {
			n++
		}
	}
	return n
}

// at returns the entry at position i.
func (f fixture) at(i int) (api.Entry, bool) {
	for position, e := range f.entries {
		if position == i {
			return e, true
		}
	}
	return api.Entry{}, false
}

func (f fixture) compareRank(t *testing.T, key int64) {
	t.Helper()
	var got int
	f.reading(t, "Rank", 6, func() { got = Rank(f.arena, f.root, key) })
	if want := f.number(func(k int64) bool { return k < key }); got != want {
		t.Fatalf("P10.1: Rank(%d): %d, want %d", key, got, want)
	}
}

func (f fixture) compareSelect(t *testing.T, i int) {
	t.Helper()
	var got api.Entry
	var found bool
	f.reading(t, "Select", 6, func() { got, found = Select(f.arena, f.root, i) })
	if want, wantFound := f.at(i); got != want || found != wantFound {
		t.Fatalf("P10.1: Select(%d): %v, %t; want %v, %t", i, got, found, want, wantFound)
	}
}

func (f fixture) compareCount(t *testing.T, lo, hi int64) {
	t.Helper()
	var got int
	f.reading(t, "Count", 12, func() { got = Count(f.arena, f.root, lo, hi) })
	if want := f.number(func(k int64) bool { return lo <= k && k <= hi }); got != want {
		t.Fatalf("P10.2: Count(%d, %d): %d, want %d", lo, hi, got, want)
	}
}

func (f fixture) compareMedian(t *testing.T) {
	t.Helper()
	var got api.Entry
	var found bool
	f.reading(t, "Median", 6, func() { got, found = Median(f.arena, f.root) })
	n := len(f.entries)
	want, wantFound := f.at((n - 1) / 2)
	if got != want || found != wantFound || found != (n > 0) {
		t.Fatalf("P10.2: Median of %d: %v, %t; want %v, %t", n, got, found, want, wantFound)
	}
}

// comparePositions has all positions of the tree and those around them.
func (f fixture) comparePositions(t *testing.T) {
	t.Helper()
	f.compareMedian(t)
	n := len(f.entries)
	for i := -n - 2; i <= 2*n+2; i++ {
		f.compareSelect(t, i)
	}
	f.compareSelect(t, math.MinInt)
	f.compareSelect(t, math.MinInt+1)
	f.compareSelect(t, math.MaxInt-1)
	f.compareSelect(t, math.MaxInt)
}

// keys returns all keys of the tree and those beside them, and the ends of the integers.
func (f fixture) keys() []int64 {
	keys := []int64{math.MinInt64, 0, math.MaxInt64}
	for _, e := range f.entries {
		keys = append(keys, e.Key-1, e.Key, e.Key+1)
	}
	return keys
}

// compareAll has all pairs of keys.
func (f fixture) compareAll(t *testing.T) {
	t.Helper()
	f.comparePositions(t)
	for _, lo := range f.keys() {
		f.compareRank(t, lo)
		for _, hi := range f.keys() {
			f.compareCount(t, lo, hi)
		}
	}
}

// compareSome has pairs of keys that are chosen by next.
func (f fixture) compareSome(t *testing.T, next func(int) int) {
	t.Helper()
	f.comparePositions(t)
	keys := f.keys()
	for _, key := range keys {
		f.compareRank(t, key)
		f.compareCount(t, key, key)
		f.compareCount(t, math.MinInt64, key)
		f.compareCount(t, key, math.MaxInt64)
		f.compareCount(t, key, keys[next(len(keys))])
	}
}

// plant plants the tree in an arena and holds that it is one.
func plant(t *testing.T, s *treetest.Tree, a *arena.Arena, entries []api.Entry) fixture {
	t.Helper()
	root := s.Plant(t, a, entries)
	if err := shape.Check(a, root); err != api.OK {
		t.Fatalf("P7.3: %d", err)
	}
	return fixture{a, root, entries}
}

// withKeys returns entries with these keys.
func withKeys(keys ...int64) []api.Entry {
	var entries []api.Entry
	for i, key := range keys {
		entries = append(entries, api.Entry{Key: key, Value: 50 - 9*int64(i)})
	}
	return entries
}

func TestExample(t *testing.T) {
	a := treetest.NewArena(t, 3)
	root := treetest.Full(3).Plant(t, a, withKeys(1, 4, 9))
	if n := Rank(a, root, 4); n != 1 {
		t.Errorf("P10.1: Rank(4): %d", n)
	}
	if n := Rank(a, root, 5); n != 2 {
		t.Errorf("P10.1: Rank(5): %d", n)
	}
	if e, ok := Select(a, root, 2); !ok || e.Key != 9 {
		t.Errorf("P10.1: Select(2): %v, %t", e, ok)
	}
	if n := Count(a, root, 2, 9); n != 2 {
		t.Errorf("P10.2: Count(2, 9): %d", n)
	}
}

// TestEmptyTree has the empty tree in an empty arena and in one with nodes.
func TestEmptyTree(t *testing.T) {
	a := treetest.NewArena(t, 3)
	fixture{a, 0, nil}.compareAll(t)
	treetest.Full(3).Plant(t, a, treetest.Spaced(3))
	fixture{a, 0, nil}.compareAll(t)
	if e, ok := Median(a, 0); ok || e != (api.Entry{}) {
		t.Errorf("P10.2: Median of the empty tree: %v, %t", e, ok)
	}
}

// TestRankByHand has ranks that were found without the model.
func TestRankByHand(t *testing.T) {
	f := plant(t, treetest.Full(5), treetest.NewArena(t, 5), withKeys(-20, -3, 0, 7, 8))
	for _, c := range []struct {
		key  int64
		want int
	}{
		{math.MinInt64, 0}, {-21, 0}, {-20, 0}, {-19, 1}, {-4, 1}, {-3, 1}, {-2, 2}, {-1, 2}, {0, 2}, {1, 3},
		{6, 3}, {7, 3}, {8, 4}, {9, 5}, {math.MaxInt64, 5},
	} {
		if got := Rank(f.arena, f.root, c.key); got != c.want {
			t.Errorf("P10.1: Rank(%d): %d, want %d", c.key, got, c.want)
		}
	}
}

// TestCountByHand has counts that were found without the model, in a tree with the least and the greatest integer.
func TestCountByHand(t *testing.T) {
	f := plant(t, treetest.Full(5), treetest.NewArena(t, 5), withKeys(math.MinInt64, -3, 0, 7, math.MaxInt64))
	for _, c := range []struct {
		lo, hi int64
		want   int
	}{
		{math.MinInt64, math.MaxInt64, 5}, {math.MinInt64 + 1, math.MaxInt64 - 1, 3},
		{math.MinInt64, math.MinInt64, 1}, {math.MaxInt64, math.MaxInt64, 1}, {math.MinInt64, math.MaxInt64 - 1, 4},
		{math.MinInt64 + 1, math.MaxInt64, 4}, {-3, 7, 3}, {-2, 6, 1}, {-3, -3, 1}, {-2, -1, 0}, {-2, -2, 0},
		{7, -3, 0}, {0, -1, 0}, {1, 0, 0}, {-3, -4, 0}, {math.MaxInt64, math.MinInt64, 0},
		{math.MaxInt64, 7, 0}, {0, math.MinInt64, 0}, {math.MinInt64 + 1, math.MinInt64, 0}, {math.MaxInt64, math.MaxInt64 - 1, 0},
	} {
		if got := Count(f.arena, f.root, c.lo, c.hi); got != c.want {
			t.Errorf("P10.2: Count(%d, %d): %d, want %d", c.lo, c.hi, got, c.want)
		}
	}
}

// TestMedianByHand has medians that were found without the model.
func TestMedianByHand(t *testing.T) {
	a := treetest.NewArena(t, 7)
	for n, want := range []int64{0, 10, 10, 20, 20, 30, 30, 40} {
		f := plant(t, treetest.Full(n), a, withKeys(10, 20, 30, 40, 50, 60, 70)[:n])
		if e, ok := Median(a, f.root); e.Key != want || ok != (n > 0) {
			t.Errorf("P10.2: Median of %d keys: %v, %t", n, e, ok)
		}
		a.Release(f.root)
	}
}

// TestAllTrees has each balanced tree of up to nine nodes.
func TestAllTrees(t *testing.T) {
	const most = 9
	a := treetest.NewArena(t, most)
	for n := range most + 1 {
		for _, s := range treetest.All(n) {
			f := plant(t, s, a, treetest.Spaced(n))
			f.compareAll(t)
			a.Release(f.root)
		}
	}
}

// TestExtremeKeys has all trees whose keys are among some that are at the ends of the integers and around 0.
func TestExtremeKeys(t *testing.T) {
	keys := []int64{math.MinInt64, math.MinInt64 + 1, -1, 0, 1, math.MaxInt64 - 1, math.MaxInt64}
	a := treetest.NewArena(t, len(keys))
	for set := range 1 << len(keys) {
		var chosen []int64
		for bit, key := range keys {
			if set>>bit&1 == 1 {
				chosen = append(chosen, key)
			}
		}
		for _, s := range treetest.All(len(chosen)) {
			f := plant(t, s, a, withKeys(chosen...))
			f.comparePositions(t)
			for _, lo := range keys {
				f.compareRank(t, lo)
				for _, hi := range keys {
					f.compareCount(t, lo, hi)
				}
			}
			a.Release(f.root)
		}
	}
}

// TestFarKeys has keys whose difference is greater than every integer, and keys that are equal modulo 2^32.
func TestFarKeys(t *testing.T) {
	a := treetest.NewArena(t, 7)
	for _, keys := range [][]int64{
		{-3 << 61, -1 << 62, 1 << 62, 3 << 61},
		{1, 1<<32 + 1, 1<<33 + 1, 1<<34 + 1},
		{-1 << 33, -1 << 32, 0, 1 << 32, 1 << 33},
		{math.MinInt32 - 1, math.MinInt32, math.MaxInt32, math.MaxInt32 + 1, math.MaxUint32, math.MaxUint32 + 1},
	} {
		for _, s := range treetest.All(len(keys)) {
			f := plant(t, s, a, withKeys(keys...))
			f.compareAll(t)
			a.Release(f.root)
		}
	}
}

// TestValues has values that say nothing about their keys: an entry of zeros is found like every other one.
func TestValues(t *testing.T) {
	values := []int64{0, -1, math.MinInt64, math.MaxInt64, 0, 1, 5}
	for zero := range values {
		var entries []api.Entry
		for i, value := range values {
			entries = append(entries, api.Entry{Key: int64(i - zero), Value: value})
		}
		entries[zero].Value = 0
		f := plant(t, treetest.Full(len(entries)), treetest.NewArena(t, len(entries)), entries)
		f.compareAll(t)
		if e, ok := Select(f.arena, f.root, zero); e != (api.Entry{}) || !ok {
			t.Errorf("P10.1: Select(%d): %v, %t", zero, e, ok)
		}
		if e, ok := Median(f.arena, f.root); zero == 3 && (e != (api.Entry{}) || !ok) {
			t.Errorf("P10.2: Median: %v, %t", e, ok)
		}
	}
}

// TestPositionsOutside has positions that would be in the tree if some of their bits were left out.
func TestPositionsOutside(t *testing.T) {
	f := plant(t, treetest.Random(6, treetest.Generator(10)), treetest.NewArena(t, 6), treetest.Spaced(6))
	for shift := range 64 {
		for i := -7; i <= 7; i++ {
			f.compareSelect(t, i+1<<shift)
			f.compareSelect(t, i-1<<shift)
		}
	}
}

// TestRandomTrees has larger trees of many shapes.
func TestRandomTrees(t *testing.T) {
	next := treetest.Generator(10)
	for range 60 {
		n := next(150)
		f := plant(t, treetest.Random(n, next), treetest.NewArena(t, 150), treetest.Spaced(n))
		f.compareSome(t, next)
	}
}

// entriesOf returns the entries of the subtree i.
func entriesOf(a *arena.Arena, i uint32) []api.Entry {
	n, ok := a.Node(i)
	if !ok {
		return nil
	}
	entries := append(entriesOf(a, n.Left), api.Entry{Key: n.Key, Value: n.Value})
	return append(entries, entriesOf(a, n.Right)...)
}

// TestSubtrees has each subtree of a tree as a tree of its own: the keys above it do not count.
func TestSubtrees(t *testing.T) {
	next := treetest.Generator(10)
	f := plant(t, treetest.Random(60, next), treetest.NewArena(t, 60), treetest.Spaced(60))
	for i := uint32(1); i <= 60; i++ {
		sub := fixture{f.arena, i, entriesOf(f.arena, i)}
		sub.compareSome(t, next)
		for _, e := range f.entries {
			sub.compareRank(t, e.Key)
			sub.compareCount(t, e.Key, e.Key+int64(next(20)))
		}
	}
}

// TestVersions has trees that share subtrees, and of which some are released again.
func TestVersions(t *testing.T) {
	a := treetest.NewArena(t, 40)
	base := plant(t, treetest.Full(15), a, treetest.Spaced(15))
	old, _ := a.Node(base.root)
	var versions []fixture
	for value := range int64(5) {
		entries := slices.Clone(base.entries)
		at := slices.IndexFunc(entries, func(e api.Entry) bool { return e.Key == old.Key })
		entries[at].Value = value
		root, _ := a.Make(old.Key, value, old.Left, old.Right)
		versions = append(versions, fixture{a, root, entries})
	}
	a.Release(base.root)
	a.Release(versions[0].root)
	treetest.Full(15).Plant(t, a, treetest.Spaced(15))
	for _, f := range versions[1:] {
		f.compareAll(t)
	}
}

// TestThinnestTrees has trees of all heights that an arena has room for, each as high as it can be, and the keys around the end of the longest path.
func TestThinnestTrees(t *testing.T) {
	a := treetest.NewArena(t, api.MaxSlots)
	for _, way := range [][]bool{{true}, {false}, {true, false}, {false, true}, {true, true, false}} {
		for height := 1; shape.MinKeys(height) <= api.MaxSlots; height++ {
			s := treetest.Thinnest(height, way)
			f := plant(t, s, a, treetest.Spaced(s.Size()))
			if s.Height() != height {
				t.Fatalf("height %d, want %d", s.Height(), height)
			}
			f.compareMedian(t)
			deep := s.Deepest()
			for i := deep - 1; i <= deep+1; i++ {
				f.compareSelect(t, i)
				key := f.entries[deep].Key + int64(i-deep)
				f.compareRank(t, key)
				f.compareCount(t, key, key)
				f.compareCount(t, math.MinInt64, key)
				f.compareCount(t, key, math.MaxInt64)
			}
			f.compareCount(t, math.MinInt64, math.MaxInt64)
			a.Release(f.root)
		}
	}
}

// TestFullArena has a tree that uses every slot: more keys than 16 bits can count.
func TestFullArena(t *testing.T) {
	f := plant(t, treetest.Full(api.MaxSlots), treetest.NewArena(t, api.MaxSlots), treetest.Spaced(api.MaxSlots))
	if f.arena.Free() != 0 {
		t.Fatalf("P5.2: %d free", f.arena.Free())
	}
	f.compareMedian(t)
	for _, i := range []int{-1, 0, 1, 1<<15 - 1, 1 << 15, api.MaxSlots - 1, api.MaxSlots, api.MaxSlots + 1} {
		f.compareSelect(t, i)
	}
	first, last := f.entries[0].Key, f.entries[api.MaxSlots-1].Key
	for i := 0; i < api.MaxSlots; i += 1021 {
		key := f.entries[i].Key
		f.compareSelect(t, i)
		f.compareRank(t, key)
		f.compareRank(t, key+1)
		f.compareCount(t, first, key)
		f.compareCount(t, key, last)
		f.compareCount(t, key-3000, key+3000)
	}
	f.compareRank(t, last)
	f.compareRank(t, last+1)
	f.compareCount(t, first, last)
	f.compareCount(t, last, first)
	if n := Count(f.arena, f.root, math.MinInt64, math.MaxInt64); n != api.MaxSlots {
		t.Errorf("P10.2: Count: %d", n)
	}
}

// TestTwoArenas has the same indexes in two arenas, in turn.
func TestTwoArenas(t *testing.T) {
	f := plant(t, treetest.Full(9), treetest.NewArena(t, 9), treetest.Spaced(9))
	g := plant(t, treetest.Full(9), treetest.NewArena(t, 20), withKeys(-50, -30, 2, 3, 4, 5, 6, 7, 80))
	if f.root != g.root {
		t.Fatalf("roots %d and %d", f.root, g.root)
	}
	for i := range 9 {
		for _, x := range []fixture{f, g} {
			x.compareSelect(t, i)
			x.compareMedian(t)
			for _, key := range []int64{-40, -6, 0, 3, 5, 12} {
				x.compareRank(t, key)
				x.compareCount(t, key, x.entries[i].Key)
			}
		}
	}
}

// callAll calls every function.
func callAll(a *arena.Arena, root uint32, key int64) {
	Rank(a, root, key)
	Select(a, root, int(key))
	Median(a, root)
	Count(a, root, key, key)
	Count(a, root, math.MinInt64, key)
	Count(a, root, key, math.MaxInt64)
	Count(a, root, math.MinInt64, math.MaxInt64)
}

// unchanged runs calls and holds that the arena is the same afterwards.
func unchanged(t *testing.T, a *arena.Arena, calls func()) {
	t.Helper()
	before := a.Dump()
	calls()
	after := a.Dump()
	if !slices.Equal(before.Slots, after.Slots) || !slices.Equal(before.Free, after.Free) {
		t.Errorf("the arena has changed: %v, %v", before, after)
	}
}

func TestNothingChanges(t *testing.T) {
	a := treetest.NewArena(t, 40)
	f := plant(t, treetest.Full(20), a, treetest.Spaced(20))
	a.Release(treetest.Full(10).Plant(t, a, treetest.Spaced(10)))
	unchanged(t, a, func() {
		for range 2 {
			f.compareAll(t)
			fixture{a, 0, nil}.compareAll(t)
			callAll(a, 30, 0)
			callAll(a, math.MaxUint32, 0)
		}
	})
}

// TestRootInvalid has roots that are no index. Of these the document says only that the functions return; those that are slots modulo 2^16 or as a signed number are among them.
func TestRootInvalid(t *testing.T) {
	const capacity = 4
	for allocated := range capacity + 1 {
		a := treetest.NewArena(t, capacity)
		treetest.Full(allocated).Plant(t, a, treetest.Spaced(allocated))
		unchanged(t, a, func() {
			for _, i := range []uint32{1, 2, 3, 4, 5, 6, api.MaxSlots, api.MaxSlots + 1, 1<<17 + 1, 1 << 31, 1<<31 + 1, math.MaxUint32 - 1, math.MaxUint32} {
				for _, key := range []int64{math.MinInt64, -3, -1, 0, 1, math.MaxInt64} {
					callAll(a, i, key)
				}
			}
		})
	}
}

// TestReleasedRoot holds that a slot that was released is a tree again as soon as it is allocated again, and then the new one.
func TestReleasedRoot(t *testing.T) {
	a := treetest.NewArena(t, 3)
	for n := range 9 {
		entries := withKeys(int64(n), int64(2*n+1), 30)[:1+n%3]
		f := plant(t, treetest.Full(len(entries)), a, entries)
		f.compareAll(t)
		a.Release(f.root)
		callAll(a, f.root, 0)
	}
}

// TestNoTree has indexes that are not trees: chains, keys in the wrong order, and subtrees that occur so often that a traversal would not end.
func TestNoTree(t *testing.T) {
	for _, step := range []int64{-1, 0, 1} {
		for _, left := range []bool{true, false} {
			a := treetest.NewArena(t, api.MaxSlots)
			root := uint32(0)
			for k := range int64(api.MaxSlots) {
				e := api.Entry{Key: step * k}
				if left {
					root = treetest.MakeNode(t, a, root, e, 0)
				} else {
					root = treetest.MakeNode(t, a, 0, e, root)
				}
			}
			for _, key := range []int64{math.MinInt64, -1000, -1, 0, 1000, math.MaxInt64} {
				callAll(a, root, key)
			}
		}
		a := treetest.NewArena(t, 31)
		root := uint32(0)
		for k := range int64(31) {
			root, _ = a.Make(step*k, 0, root, root)
			for _, key := range []int64{math.MinInt64, -15, 0, 15, 1 << 30, math.MaxInt64} {
				callAll(a, root, key)
			}
		}
	}
}

// TestCircles has circles and children that are not allocated. A caller makes them that releases references that it does not hold. The functions return nevertheless.
func TestCircles(t *testing.T) {
	for _, left := range []bool{true, false} {
		a := treetest.NewArena(t, 3)
		child := func(i uint32) (uint32, uint32) {
			if left {
				return i, 0
			}
			return 0, i
		}
		keys := []int64{math.MinInt64, -1, 0, 1, 2, 3, 4, 1000, math.MaxInt64}
		leaf, _ := a.Make(1, 0, 0, 0)
		l, r := child(leaf)
		above, _ := a.Make(2, 0, l, r)
		a.Release(leaf)
		a.Release(leaf)
		for _, key := range keys {
			callAll(a, above, key)
		}
		l, r = child(above)
		if below, _ := a.Make(3, 0, l, r); below != leaf {
			t.Fatalf("slot %d, want %d", below, leaf)
		}
		for _, key := range keys {
			callAll(a, above, key)
			callAll(a, leaf, key)
		}
	}
}

// TestReleasedTooOften has callers that release references that they do not hold.
func TestReleasedTooOften(t *testing.T) {
	const capacity = 5
	a := treetest.NewArena(t, capacity)
	next := treetest.Generator(10)
	for range 20000 {
		i, j := uint32(next(capacity+2)), uint32(next(capacity+2))
		if next(2) == 0 {
			a.Make(int64(next(9)), 0, i, j)
		} else {
			a.Release(i)
		}
		for i := range uint32(capacity + 2) {
			callAll(a, i, int64(next(11)-1))
		}
	}
}
