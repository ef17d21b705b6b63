package rank

import (
	"math"
	"slices"
	"testing"

	"versionmap/api"
	"versionmap/arena"
	"versionmap/shape"
)

// fixture is a tree with its entries.
type fixture struct {
	arena   *arena.Arena
	root    uint32
	entries []api.Entry
}

// reading runs call and holds P10.3: at most perLevel * (MaxHeight(n) + 2) reads.
func (f fixture) reading(t *testing.T, name string, perLevel int, call func()) {
	t.Helper()
	before := f.arena.Reads()
	call()
	most := perLevel * (shape.MaxHeight(len(f.entries)) + 2)
	if reads := f.arena.Reads() - before; reads > uint64(most) {
		t.Fatalf("P10.3: %s: %d reads of a tree of %d keys, at most %d", name, reads, len(f.entries), most)
	}
}

// number returns how many keys are wanted.
func (f fixture) number(wanted func(key int64) bool) int {
	n := 0
	for _, e := range f.entries {
		if wanted(e.Key) {
			n++
		}
	}
	return n
}

// at returns the entry at position i.
func (f fixture) at(i int) (api.Entry, bool) {
	for position, e := range f.entries {
		if position == i {
			return e, true
		}
	}
	return api.Entry{}, false
}

func (f fixture) compareRank(t *testing.T, key int64) {
	t.Helper()
	var got int
	f.reading(t, "Rank", 6, func() { got = Rank(f.arena, f.root, key) })
	if want := f.number(func(k int64) bool { return k < key }); got != want {
		t.Fatalf("P10.1: Rank(%d): %d, want %d", key, got, want)
	}
}

func (f fixture) compareSelect(t *testing.T, i int) {
	t.Helper()
	var got api.Entry
	var found bool
	f.reading(t, "Select", 6, func() { got, found = Select(f.arena, f.root, i) })
	if want, wantFound := f.at(i); got != want || found != wantFound {
		t.Fatalf("P10.1: Select(%d): %v, %t; want %v, %t", i, got, found, want, wantFound)
	}
}

func (f fixture) compareCount(t *testing.T, lo, hi int64) {
	t.Helper()
	var got int
	f.reading(t, "Count", 12, func() { got = Count(f.arena, f.root, lo, hi) })
	if want := f.number(func(k int64) bool { return lo <= k && k <= hi }); got != want {
		t.Fatalf("P10.2: Count(%d, %d): %d, want %d", lo, hi, got, want)
	}
}

func (f fixture) compareMedian(t *testing.T) {
	t.Helper()
	var got api.Entry
	var found bool
	f.reading(t, "Median", 6, func() { got, found = Median(f.arena, f.root) })
	n := len(f.entries)
	want, wantFound := f.at((n - 1) / 2)
	if got != want || found != wantFound || found != (n > 0) {
		t.Fatalf("P10.2: Median of %d: %v, %t; want %v, %t", n, got, found, want, wantFound)
	}
}

// comparePositions has all positions of the tree and those around them.
func (f fixture) comparePositions(t *testing.T) {
	t.Helper()
	f.compareMedian(t)
	n := len(f.entries)
	for i := -n - 2; i <= 2*n+2; i++ {
		f.compareSelect(t, i)
	}
	f.compareSelect(t, math.MinInt)
	f.compareSelect(t, math.MinInt+1)
	f.compareSelect(t, math.MaxInt-1)
	f.compareSelect(t, math.MaxInt)
}

// keys returns all keys of the tree and those beside them, and the ends of the integers.
func (f fixture) keys() []int64 {
	keys := []int64{math.MinInt64, 0, math.MaxInt64}
	for _, e := range f.entries {
		keys = append(keys, e.Key-1, e.Key, e.Key+1)
	}
	return keys
}

// compareAll has all pairs of keys.
func (f fixture) compareAll(t *testing.T) {
	t.Helper()
	f.comparePositions(t)
	for _, lo := range f.keys() {
		f.compareRank(t, lo)
		for _, hi := range f.keys() {
			f.compareCount(t, lo, hi)
		}
	}
}

// compareSome has pairs of keys that are chosen by next.
func (f fixture) compareSome(t *testing.T, next func(int) int) {
	t.Helper()
	f.comparePositions(t)
	keys := f.keys()
	for _, key := range keys {
		f.compareRank(t, key)
		f.compareCount(t, key, key)
		f.compareCount(t, math.MinInt64, key)
		f.compareCount(t, key, math.MaxInt64)
		f.compareCount(t, key, keys[next(len(keys))])
	}
}

func newArena(t *testing.T, capacity int) *arena.Arena {
	t.Helper()
	a, err := arena.New(capacity)
	if err != api.OK {
		t.Fatalf("P5.1: New(%d): %d", capacity, err)
	}
	return a
}

// makeNode makes a node and takes over the caller's references to its children.
func makeNode(t *testing.T, a *arena.Arena, e api.Entry, left, right uint32) uint32 {
	t.Helper()
	i, err := a.Make(e.Key, e.Value, left, right)
	if err != api.OK {
		t.Fatalf("P5.2: Make(%v, %d, %d): %d", e, left, right, err)
	}
	a.Release(left)
	a.Release(right)
	return i
}

// tree is a tree without its entries; nil is the empty one.
type tree struct {
	left, right *tree
	keys        int
}

func (s *tree) size() int {
	if s == nil {
		return 0
	}
	return s.keys
}

func node(left, right *tree) *tree {
	return &tree{left, right, left.size() + 1 + right.size()}
}

// plant makes the tree with the entries in the order of an in-order traversal.
func (s *tree) plant(t *testing.T, a *arena.Arena, entries []api.Entry) uint32 {
	t.Helper()
	if s == nil {
		return 0
	}
	at := s.left.size()
	left := s.left.plant(t, a, entries[:at])
	right := s.right.plant(t, a, entries[at+1:])
	return makeNode(t, a, entries[at], left, right)
}

// with plants the tree in an arena and holds that it is one.
func (s *tree) with(t *testing.T, a *arena.Arena, entries []api.Entry) fixture {
	t.Helper()
	root := s.plant(t, a, entries)
	if err := shape.Check(a, root); err != api.OK {
		t.Fatalf("P7.3: %d", err)
	}
	return fixture{a, root, entries}
}

// allTrees returns all trees of n nodes that are balanced.
func allTrees(n int) []*tree {
	if n == 0 {
		return []*tree{nil}
	}
	var all []*tree
	for left := range n {
		if !shape.Balanced(left, n-1-left) {
			continue
		}
		for _, l := range allTrees(left) {
			for _, r := range allTrees(n - 1 - left) {
				all = append(all, node(l, r))
			}
		}
	}
	return all
}

// full returns the tree of n keys that is as low as possible.
func full(n int) *tree {
	if n == 0 {
		return nil
	}
	return node(full(n/2), full(n-1-n/2))
}

// thinnest returns a tree of the least number of keys for its height. Its longest path turns as turns says, again and again, from the root downwards: true is left.
func thinnest(height int, turns []bool) *tree {
	if height == 0 {
		return nil
	}
	high := thinnest(height-1, append(slices.Clone(turns[1:]), turns[0]))
	low := full(shape.MinKeys(height) - 1 - shape.MinKeys(height-1))
	if turns[0] {
		return node(high, low)
	}
	return node(low, high)
}

// height returns the number of nodes on the longest path downwards.
func (s *tree) height() int {
	if s == nil {
		return 0
	}
	return 1 + max(s.left.height(), s.right.height())
}

// deepest returns the position of the node at the end of the longest path, counted from 0.
func (s *tree) deepest() int {
	switch {
	case s.height() == 1:
		return 0
	case s.left.height() > s.right.height():
		return s.left.deepest()
	}
	return s.left.size() + 1 + s.right.deepest()
}

// random returns a tree of n keys in which each node is as far from the middle as next says, and balanced.
func random(n int, next func(int) int) *tree {
	if n == 0 {
		return nil
	}
	least := (n + 4) / 4
	left := least - 1 + next(n+1-2*least+1)
	return node(random(left, next), random(n-1-left, next))
}

// generator returns a function whose results are from 0 to before n and follow no short rule.
func generator() func(n int) int {
	x := uint64(10)
	return func(n int) int {
		x = x*6364136223846793005 + 1442695040888963407
		return int(x>>33) % n
	}
}

// spaced returns n entries whose keys are on both sides of 0 and have gaps between them. No value is the key or the position of its entry.
func spaced(n int) []api.Entry {
	entries := make([]api.Entry, n)
	for i := range entries {
		key := int64(3 * (i - n/2))
		entries[i] = api.Entry{Key: key, Value: 1000 - 7*key}
	}
	return entries
}

// withKeys returns entries with these keys.
func withKeys(keys ...int64) []api.Entry {
	var entries []api.Entry
	for i, key := range keys {
		entries = append(entries, api.Entry{Key: key, Value: 50 - 9*int64(i)})
	}
	return entries
}

func TestExample(t *testing.T) {
	a := newArena(t, 3)
	root := full(3).plant(t, a, withKeys(1, 4, 9))
	if n := Rank(a, root, 4); n != 1 {
		t.Errorf("P10.1: Rank(4): %d", n)
	}
	if n := Rank(a, root, 5); n != 2 {
		t.Errorf("P10.1: Rank(5): %d", n)
	}
	if e, ok := Select(a, root, 2); !ok || e.Key != 9 {
		t.Errorf("P10.1: Select(2): %v, %t", e, ok)
	}
	if n := Count(a, root, 2, 9); n != 2 {
		t.Errorf("P10.2: Count(2, 9): %d", n)
	}
}

// TestEmptyTree has the empty tree in an empty arena and in one with nodes.
func TestEmptyTree(t *testing.T) {
	a := newArena(t, 3)
	fixture{a, 0, nil}.compareAll(t)
	full(3).plant(t, a, spaced(3))
	fixture{a, 0, nil}.compareAll(t)
	if e, ok := Median(a, 0); ok || e != (api.Entry{}) {
		t.Errorf("P10.2: Median of the empty tree: %v, %t", e, ok)
	}
}

// TestRankByHand has ranks that were found without the model.
func TestRankByHand(t *testing.T) {
	f := full(5).with(t, newArena(t, 5), withKeys(-20, -3, 0, 7, 8))
	for _, c := range []struct {
		key  int64
		want int
	}{
		{math.MinInt64, 0}, {-21, 0}, {-20, 0}, {-19, 1}, {-4, 1}, {-3, 1}, {-2, 2}, {-1, 2}, {0, 2}, {1, 3},
		{6, 3}, {7, 3}, {8, 4}, {9, 5}, {math.MaxInt64, 5},
	} {
		if got := Rank(f.arena, f.root, c.key); got != c.want {
			t.Errorf("P10.1: Rank(%d): %d, want %d", c.key, got, c.want)
		}
	}
}

// TestCountByHand has counts that were found without the model, in a tree with the least and the greatest integer.
func TestCountByHand(t *testing.T) {
	f := full(5).with(t, newArena(t, 5), withKeys(math.MinInt64, -3, 0, 7, math.MaxInt64))
	for _, c := range []struct {
		lo, hi int64
		want   int
	}{
		{math.MinInt64, math.MaxInt64, 5}, {math.MinInt64 + 1, math.MaxInt64 - 1, 3},
		{math.MinInt64, math.MinInt64, 1}, {math.MaxInt64, math.MaxInt64, 1}, {math.MinInt64, math.MaxInt64 - 1, 4},
		{math.MinInt64 + 1, math.MaxInt64, 4}, {-3, 7, 3}, {-2, 6, 1}, {-3, -3, 1}, {-2, -1, 0}, {-2, -2, 0},
		{7, -3, 0}, {0, -1, 0}, {1, 0, 0}, {-3, -4, 0}, {math.MaxInt64, math.MinInt64, 0},
		{math.MaxInt64, 7, 0}, {0, math.MinInt64, 0}, {math.MinInt64 + 1, math.MinInt64, 0}, {math.MaxInt64, math.MaxInt64 - 1, 0},
	} {
		if got := Count(f.arena, f.root, c.lo, c.hi); got != c.want {
			t.Errorf("P10.2: Count(%d, %d): %d, want %d", c.lo, c.hi, got, c.want)
		}
	}
}

// TestMedianByHand has medians that were found without the model.
func TestMedianByHand(t *testing.T) {
	a := newArena(t, 7)
	for n, want := range []int64{0, 10, 10, 20, 20, 30, 30, 40} {
		f := full(n).with(t, a, withKeys(10, 20, 30, 40, 50, 60, 70)[:n])
		if e, ok := Median(a, f.root); e.Key != want || ok != (n > 0) {
			t.Errorf("P10.2: Median of %d keys: %v, %t", n, e, ok)
		}
		a.Release(f.root)
	}
}

// TestAllTrees has each balanced tree of up to nine nodes.
func TestAllTrees(t *testing.T) {
	const most = 9
	a := newArena(t, most)
	for n := range most + 1 {
		for _, s := range allTrees(n) {
			f := s.with(t, a, spaced(n))
			f.compareAll(t)
			a.Release(f.root)
		}
	}
}

// TestExtremeKeys has all trees whose keys are among some that are at the ends of the integers and around 0.
func TestExtremeKeys(t *testing.T) {
	keys := []int64{math.MinInt64, math.MinInt64 + 1, -1, 0, 1, math.MaxInt64 - 1, math.MaxInt64}
	a := newArena(t, len(keys))
	for set := range 1 << len(keys) {
		var chosen []int64
		for bit, key := range keys {
			if set>>bit&1 == 1 {
				chosen = append(chosen, key)
			}
		}
		for _, s := range allTrees(len(chosen)) {
			f := s.with(t, a, withKeys(chosen...))
			f.comparePositions(t)
			for _, lo := range keys {
				f.compareRank(t, lo)
				for _, hi := range keys {
					f.compareCount(t, lo, hi)
				}
			}
			a.Release(f.root)
		}
	}
}

// TestFarKeys has keys whose difference is greater than every integer, and keys that are equal modulo 2^32.
func TestFarKeys(t *testing.T) {
	a := newArena(t, 7)
	for _, keys := range [][]int64{
		{-3 << 61, -1 << 62, 1 << 62, 3 << 61},
		{1, 1<<32 + 1, 1<<33 + 1, 1<<34 + 1},
		{-1 << 33, -1 << 32, 0, 1 << 32, 1 << 33},
		{math.MinInt32 - 1, math.MinInt32, math.MaxInt32, math.MaxInt32 + 1, math.MaxUint32, math.MaxUint32 + 1},
	} {
		for _, s := range allTrees(len(keys)) {
			f := s.with(t, a, withKeys(keys...))
			f.compareAll(t)
			a.Release(f.root)
		}
	}
}

// TestValues has values that say nothing about their keys: an entry of zeros is found like every other one.
func TestValues(t *testing.T) {
	values := []int64{0, -1, math.MinInt64, math.MaxInt64, 0, 1, 5}
	for zero := range values {
		var entries []api.Entry
		for i, value := range values {
			entries = append(entries, api.Entry{Key: int64(i - zero), Value: value})
		}
		entries[zero].Value = 0
		f := full(len(entries)).with(t, newArena(t, len(entries)), entries)
		f.compareAll(t)
		if e, ok := Select(f.arena, f.root, zero); e != (api.Entry{}) || !ok {
			t.Errorf("P10.1: Select(%d): %v, %t", zero, e, ok)
		}
		if e, ok := Median(f.arena, f.root); zero == 3 && (e != (api.Entry{}) || !ok) {
			t.Errorf("P10.2: Median: %v, %t", e, ok)
		}
	}
}

// TestPositionsOutside has positions that would be in the tree if some of their bits were left out.
func TestPositionsOutside(t *testing.T) {
	f := random(6, generator()).with(t, newArena(t, 6), spaced(6))
	for shift := range 64 {
		for i := -7; i <= 7; i++ {
			f.compareSelect(t, i+1<<shift)
			f.compareSelect(t, i-1<<shift)
		}
	}
}

// TestRandomTrees has larger trees of many shapes.
func TestRandomTrees(t *testing.T) {
	next := generator()
	for range 60 {
		n := next(150)
		f := random(n, next).with(t, newArena(t, 150), spaced(n))
		f.compareSome(t, next)
	}
}

// entriesOf returns the entries of the subtree i.
func entriesOf(a *arena.Arena, i uint32) []api.Entry {
	n, ok := a.Node(i)
	if !ok {
		return nil
	}
	entries := append(entriesOf(a, n.Left), api.Entry{Key: n.Key, Value: n.Value})
	return append(entries, entriesOf(a, n.Right)...)
}

// TestSubtrees has each subtree of a tree as a tree of its own: the keys above it do not count.
func TestSubtrees(t *testing.T) {
	next := generator()
	f := random(60, next).with(t, newArena(t, 60), spaced(60))
	for i := uint32(1); i <= 60; i++ {
		sub := fixture{f.arena, i, entriesOf(f.arena, i)}
		sub.compareSome(t, next)
		for _, e := range f.entries {
			sub.compareRank(t, e.Key)
			sub.compareCount(t, e.Key, e.Key+int64(next(20)))
		}
	}
}

// TestVersions has trees that share subtrees, and of which some are released again.
func TestVersions(t *testing.T) {
	a := newArena(t, 40)
	base := full(15).with(t, a, spaced(15))
	old, _ := a.Node(base.root)
	var versions []fixture
	for value := range int64(5) {
		entries := slices.Clone(base.entries)
		at := slices.IndexFunc(entries, func(e api.Entry) bool { return e.Key == old.Key })
		entries[at].Value = value
		root, _ := a.Make(old.Key, value, old.Left, old.Right)
		versions = append(versions, fixture{a, root, entries})
	}
	a.Release(base.root)
	a.Release(versions[0].root)
	full(15).plant(t, a, spaced(15))
	for _, f := range versions[1:] {
		f.compareAll(t)
	}
}

// TestThinnestTrees has trees of all heights that an arena has room for, each as high as it can be, and the keys around the end of the longest path.
func TestThinnestTrees(t *testing.T) {
	a := newArena(t, api.MaxSlots)
	for _, way := range [][]bool{{true}, {false}, {true, false}, {false, true}, {true, true, false}} {
		for height := 1; shape.MinKeys(height) <= api.MaxSlots; height++ {
			s := thinnest(height, way)
			f := s.with(t, a, spaced(s.size()))
			if s.height() != height {
				t.Fatalf("height %d, want %d", s.height(), height)
			}
			f.compareMedian(t)
			deep := s.deepest()
			for i := deep - 1; i <= deep+1; i++ {
				f.compareSelect(t, i)
				key := f.entries[deep].Key + int64(i-deep)
				f.compareRank(t, key)
				f.compareCount(t, key, key)
				f.compareCount(t, math.MinInt64, key)
				f.compareCount(t, key, math.MaxInt64)
			}
			f.compareCount(t, math.MinInt64, math.MaxInt64)
			a.Release(f.root)
		}
	}
}

// TestFullArena has a tree that uses every slot: more keys than 16 bits can count.
func TestFullArena(t *testing.T) {
	f := full(api.MaxSlots).with(t, newArena(t, api.MaxSlots), spaced(api.MaxSlots))
	if f.arena.Free() != 0 {
		t.Fatalf("P5.2: %d free", f.arena.Free())
	}
	f.compareMedian(t)
	for _, i := range []int{-1, 0, 1, 1<<15 - 1, 1 << 15, api.MaxSlots - 1, api.MaxSlots, api.MaxSlots + 1} {
		f.compareSelect(t, i)
	}
	first, last := f.entries[0].Key, f.entries[api.MaxSlots-1].Key
	for i := 0; i < api.MaxSlots; i += 1021 {
		key := f.entries[i].Key
		f.compareSelect(t, i)
		f.compareRank(t, key)
		f.compareRank(t, key+1)
		f.compareCount(t, first, key)
		f.compareCount(t, key, last)
		f.compareCount(t, key-3000, key+3000)
	}
	f.compareRank(t, last)
	f.compareRank(t, last+1)
	f.compareCount(t, first, last)
	f.compareCount(t, last, first)
	if n := Count(f.arena, f.root, math.MinInt64, math.MaxInt64); n != api.MaxSlots {
		t.Errorf("P10.2: Count: %d", n)
	}
}

// TestTwoArenas has the same indexes in two arenas, in turn.
func TestTwoArenas(t *testing.T) {
	f := full(9).with(t, newArena(t, 9), spaced(9))
	g := full(9).with(t, newArena(t, 20), withKeys(-50, -30, 2, 3, 4, 5, 6, 7, 80))
	if f.root != g.root {
		t.Fatalf("roots %d and %d", f.root, g.root)
	}
	for i := range 9 {
		for _, x := range []fixture{f, g} {
			x.compareSelect(t, i)
			x.compareMedian(t)
			for _, key := range []int64{-40, -6, 0, 3, 5, 12} {
				x.compareRank(t, key)
				x.compareCount(t, key, x.entries[i].Key)
			}
		}
	}
}

// callAll calls every function.
func callAll(a *arena.Arena, root uint32, key int64) {
	Rank(a, root, key)
	Select(a, root, int(key))
	Median(a, root)
	Count(a, root, key, key)
	Count(a, root, math.MinInt64, key)
	Count(a, root, key, math.MaxInt64)
	Count(a, root, math.MinInt64, math.MaxInt64)
}

// unchanged runs calls and holds that the arena is the same afterwards.
func unchanged(t *testing.T, a *arena.Arena, calls func()) {
	t.Helper()
	before := a.Dump()
	calls()
	after := a.Dump()
	if !slices.Equal(before.Slots, after.Slots) || !slices.Equal(before.Free, after.Free) {
		t.Errorf("the arena has changed: %v, %v", before, after)
	}
}

func TestNothingChanges(t *testing.T) {
	a := newArena(t, 40)
	f := full(20).with(t, a, spaced(20))
	a.Release(full(10).plant(t, a, spaced(10)))
	unchanged(t, a, func() {
		for range 2 {
			f.compareAll(t)
			fixture{a, 0, nil}.compareAll(t)
			callAll(a, 30, 0)
			callAll(a, math.MaxUint32, 0)
		}
	})
}

// TestRootInvalid has roots that are no index. Of these the document says only that the functions return; those that are slots modulo 2^16 or as a signed number are among them.
func TestRootInvalid(t *testing.T) {
	const capacity = 4
	for allocated := range capacity + 1 {
		a := newArena(t, capacity)
		full(allocated).plant(t, a, spaced(allocated))
		unchanged(t, a, func() {
			for _, i := range []uint32{1, 2, 3, 4, 5, 6, api.MaxSlots, api.MaxSlots + 1, 1<<17 + 1, 1 << 31, 1<<31 + 1, math.MaxUint32 - 1, math.MaxUint32} {
				for _, key := range []int64{math.MinInt64, -3, -1, 0, 1, math.MaxInt64} {
					callAll(a, i, key)
				}
			}
		})
	}
}

// TestReleasedRoot holds that a slot that was released is a tree again as soon as it is allocated again, and then the new one.
func TestReleasedRoot(t *testing.T) {
	a := newArena(t, 3)
	for n := range 9 {
		entries := withKeys(int64(n), int64(2*n+1), 30)[:1+n%3]
		f := full(len(entries)).with(t, a, entries)
		f.compareAll(t)
		a.Release(f.root)
		callAll(a, f.root, 0)
	}
}

// TestNoTree has indexes that are not trees: chains, keys in the wrong order, and subtrees that occur so often that a traversal would not end.
func TestNoTree(t *testing.T) {
	for _, step := range []int64{-1, 0, 1} {
		for _, left := range []bool{true, false} {
			a := newArena(t, api.MaxSlots)
			root := uint32(0)
			for k := range int64(api.MaxSlots) {
				e := api.Entry{Key: step * k}
				if left {
					root = makeNode(t, a, e, root, 0)
				} else {
					root = makeNode(t, a, e, 0, root)
				}
			}
			for _, key := range []int64{math.MinInt64, -1000, -1, 0, 1000, math.MaxInt64} {
				callAll(a, root, key)
			}
		}
		a := newArena(t, 31)
		root := uint32(0)
		for k := range int64(31) {
			root, _ = a.Make(step*k, 0, root, root)
			for _, key := range []int64{math.MinInt64, -15, 0, 15, 1 << 30, math.MaxInt64} {
				callAll(a, root, key)
			}
		}
	}
}

// TestCircles has circles and children that are not allocated. A caller makes them that releases references that it does not hold. The functions return nevertheless.
func TestCircles(t *testing.T) {
	for _, left := range []bool{true, false} {
		a := newArena(t, 3)
		child := func(i uint32) (uint32, uint32) {
			if left {
				return i, 0
			}
			return 0, i
		}
		keys := []int64{math.MinInt64, -1, 0, 1, 2, 3, 4, 1000, math.MaxInt64}
		leaf, _ := a.Make(1, 0, 0, 0)
		l, r := child(leaf)
		above, _ := a.Make(2, 0, l, r)
		a.Release(leaf)
		a.Release(leaf)
		for _, key := range keys {
			callAll(a, above, key)
		}
		l, r = child(above)
		if below, _ := a.Make(3, 0, l, r); below != leaf {
			t.Fatalf("slot %d, want %d", below, leaf)
		}
		for _, key := range keys {
			callAll(a, above, key)
			callAll(a, leaf, key)
		}
	}
}

// TestReleasedTooOften has callers that release references that they do not hold.
func TestReleasedTooOften(t *testing.T) {
	const capacity = 5
	a := newArena(t, capacity)
	next := generator()
	for range 20000 {
		i, j := uint32(next(capacity+2)), uint32(next(capacity+2))
		if next(2) == 0 {
			a.Make(int64(next(9)), 0, i, j)
		} else {
			a.Release(i)
		}
		for i := range uint32(capacity + 2) {
			callAll(a, i, int64(next(11)-1))
		}
	}
}
