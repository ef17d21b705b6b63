package summary

import (
	"math"
	"slices"
	"testing"

	"versionmap/api"
	"versionmap/arena"
	"versionmap/shape"
	"versionmap/treetest"
)

// modelOf is P11.1. Unsigned integers are added modulo 2^64.
func modelOf(entries []api.Entry) api.Summary {
	if len(entries) == 0 {
		return api.Summary{}
	}
	sum := uint64(0)
	var values []int64
	for _, e := range entries {
		sum += uint64(e.Value)
		values = append(values, e.Value)
	}
	return api.Summary{Count: len(entries), Sum: int64(sum), Min: slices.Min(values), Max: slices.Max(values)}
}

// modelAdd is P11.2.
func modelAdd(x, y api.Summary) api.Summary {
	switch {
	case x.Count == 0:
		return y
	case y.Count == 0:
		return x
	}
	return api.Summary{
		Count: int(uint64(x.Count) + uint64(y.Count)),
		Sum:   int64(uint64(x.Sum) + uint64(y.Sum)),
		Min:   slices.Min([]int64{x.Min, y.Min}),
		Max:   slices.Max([]int64{x.Max, y.Max}),
	}
}

// fixture is a tree with its entries.
type fixture struct {
	arena   *arena.Arena
	root    uint32
	entries []api.Entry
}

// reading runs call and holds P11.4: at most perLevel * (MaxHeight(n) + 2) reads.
func (f fixture) reading(t *testing.T, name string, perLevel int, call func()) {
	t.Helper()
	before := f.arena.Reads()
	call()
	most := perLevel * (shape.MaxHeight(len(f.entries)) + 2)
	if reads := f.arena.Reads() - before; reads > uint64(most) {
		t.Fatalf("P11.4: %s: %d reads of a tree of %d keys, at most %d", name, reads, len(f.entries), most)
	}
}

// between returns the entries with keys from lo to hi.
func (f fixture) between(lo, hi int64) []api.Entry {
	var found []api.Entry
	for _, e := range f.entries {
		if lo <= e.Key && e.Key <= hi {
			found = append(found, e)
		}
	}
	return found
}

func (f fixture) compareRange(t *testing.T, lo, hi int64) {
	t.Helper()
	var got api.Summary
	f.reading(t, "Range", 12, func() { got = Range(f.arena, f.root, lo, hi) })
	if want := modelOf(f.between(lo, hi)); got != want {
		t.Fatalf("P11.3: Range(%d, %d): %v, want %v", lo, hi, got, want)
	}
}

func (f fixture) comparePrefix(t *testing.T, i int) {
	t.Helper()
	var got api.Summary
	f.reading(t, "Prefix", 6, func() { got = Prefix(f.arena, f.root, i) })
	length := i
	switch {
	case i < 0:
		length = 0
	case i > len(f.entries):
		length = len(f.entries)
	}
	if want := modelOf(f.entries[:length]); got != want {
		t.Fatalf("P11.3: Prefix(%d): %v, want %v", i, got, want)
	}
}

// comparePrefixes has all lengths of the tree and those around them.
func (f fixture) comparePrefixes(t *testing.T) {
	t.Helper()
	n := len(f.entries)
	for i := -n - 2; i <= 2*n+2; i++ {
		f.comparePrefix(t, i)
	}
	for _, i := range []int{math.MinInt, math.MinInt + 1, math.MaxInt - 1, math.MaxInt} {
		f.comparePrefix(t, i)
	}
}

// keys returns all keys of the tree and those beside them, and the ends of the integers.
func (f fixture) keys() []int64 {
	keys := []int64{math.MinInt64, 0, math.MaxInt64}
	for _, e := range f.entries {
		keys = append(keys, e.Key-1, e.Key, e.Key+1)
	}
	slices.Sort(keys)
	return slices.Compact(keys)
}

// compareAll has all pairs of keys.
func (f fixture) compareAll(t *testing.T) {
	t.Helper()
	f.comparePrefixes(t)
	for _, lo := range f.keys() {
		for _, hi := range f.keys() {
			f.compareRange(t, lo, hi)
		}
	}
}

// compareSome has pairs of keys that are chosen by next.
func (f fixture) compareSome(t *testing.T, next func(int) int) {
	t.Helper()
	f.comparePrefixes(t)
	keys := f.keys()
	for _, key := range keys {
		f.compareRange(t, key, key)
		f.compareRange(t, math.MinInt64, key)
		f.compareRange(t, key, math.MaxInt64)
		f.compareRange(t, key, keys[next(len(keys))])
	}
}

// plant plants the tree in an arena and holds that it is one.
func plant(t *testing.T, s *treetest.Tree, a *arena.Arena, entries []api.Entry) fixture {
	t.Helper()
	root := s.Plant(t, a, entries)
	if err := shape.Check(a, root); err != api.OK {
		t.Fatalf("P7.3: %d", err)
	}
	return fixture{a, root, entries}
}

// withKeys returns entries with these keys and values that next chooses: of both signs, of one sign, so few that many are equal, or so great that their sum wraps around.
func withKeys(next func(int) int, keys ...int64) []api.Entry {
	extreme := []int64{math.MinInt64, math.MinInt64 + 1, -1 << 62, -1, 0, 1, 1 << 62, math.MaxInt64 - 1, math.MaxInt64}
	kind := next(5)
	var entries []api.Entry
	for _, key := range keys {
		value := int64(0)
		switch kind {
		case 0:
			value = int64(next(2000) - 1000)
		case 1:
			value = int64(next(1000) + 1)
		case 2:
			value = -int64(next(1000) + 1)
		case 3:
			value = int64(next(3) - 1)
		case 4:
			value = extreme[next(len(extreme))]
		}
		entries = append(entries, api.Entry{Key: key, Value: value})
	}
	return entries
}

// withValues returns entries with these keys and values, in turn.
func withValues(numbers ...int64) []api.Entry {
	var entries []api.Entry
	for pair := range slices.Chunk(numbers, 2) {
		entries = append(entries, api.Entry{Key: pair[0], Value: pair[1]})
	}
	return entries
}

// totals returns a summary with these fields.
func totals(count int, sum, least, greatest int64) api.Summary {
	return api.Summary{Count: count, Sum: sum, Min: least, Max: greatest}
}

// spaced returns n entries whose keys are on both sides of 0 and have gaps between them.
func spaced(next func(int) int, n int) []api.Entry {
	var keys []int64
	for i := range n {
		keys = append(keys, int64(3*(i-n/2)))
	}
	return withKeys(next, keys...)
}

func TestExample(t *testing.T) {
	a := treetest.NewArena(t, 3)
	root := treetest.Full(3).Plant(t, a, withValues(1, 10, 4, -3, 9, 5))
	if got, want := Range(a, root, 2, 9), totals(2, 2, -3, 5); got != want {
		t.Errorf("P11.3: Range(2, 9): %v, want %v", got, want)
	}
	if got, want := Prefix(a, root, 1), totals(1, 10, 10, 10); got != want {
		t.Errorf("P11.3: Prefix(1): %v, want %v", got, want)
	}
}

// TestOfByHand has summaries that were found without the model.
func TestOfByHand(t *testing.T) {
	const least, greatest = math.MinInt64, math.MaxInt64
	for _, c := range []struct {
		entries []api.Entry
		want    api.Summary
	}{
		{nil, api.Summary{}},
		{[]api.Entry{}, api.Summary{}},
		{withValues(0, 0), totals(1, 0, 0, 0)},
		{withValues(5, 3), totals(1, 3, 3, 3)},
		{withValues(5, -3), totals(1, -3, -3, -3)},
		{withValues(1, 4, 2, 9), totals(2, 13, 4, 9)},
		{withValues(2, -4, 1, -9), totals(2, -13, -9, -4)},
		{withValues(7, 4, 7, 4, 7, 5, 3, 5, 7, 4), totals(5, 22, 4, 5)},
		{withValues(9, 1, -9, 0, 0, -1), totals(3, 0, -1, 1)},
		{withValues(1, greatest, 2, 1), totals(2, least, 1, greatest)},
		{withValues(1, least, 2, -1), totals(2, greatest, least, -1)},
		{withValues(1, least, 2, least), totals(2, 0, least, least)},
		{withValues(1, greatest, 2, greatest), totals(2, -2, greatest, greatest)},
		{withValues(1, greatest, 2, least), totals(2, -1, least, greatest)},
		{withValues(least, 1<<62, greatest, 1<<62, 0, 1<<62, 0, 1<<62, 1, 8), totals(5, 8, 8, 1<<62)},
	} {
		if got := Of(c.entries); got != c.want {
			t.Errorf("P11.1: Of(%v): %v, want %v", c.entries, got, c.want)
		}
	}
}

// lists runs check with all lists of up to four entries whose values are among some at the ends of the integers and around 0.
func lists(check func(entries []api.Entry)) {
	values := []int64{math.MinInt64, math.MinInt64 + 1, -2, -1, 0, 1, 2, math.MaxInt64}
	var extend func(entries []api.Entry, more int)
	extend = func(entries []api.Entry, more int) {
		check(entries)
		if more == 0 {
			return
		}
		for _, value := range values {
			e := api.Entry{Key: value ^ int64(more), Value: value}
			extend(append(slices.Clone(entries), e), more-1)
		}
	}
	extend(nil, 4)
}

// TestOf also holds that the entries stay as they are, and that neither their order nor their keys matter.
func TestOf(t *testing.T) {
	lists(func(entries []api.Entry) {
		given := slices.Clone(entries)
		want := modelOf(entries)
		if got := Of(given); got != want {
			t.Fatalf("P11.1: Of(%v): %v, want %v", entries, got, want)
		}
		if !slices.Equal(given, entries) {
			t.Fatalf("Of(%v) changed the entries: %v", entries, given)
		}
		slices.Reverse(given)
		for i := range given {
			given[i].Key = 7
		}
		if got := Of(given); got != want {
			t.Fatalf("P11.1: Of(%v): %v, want %v", given, got, want)
		}
	})
}

func TestOfLongLists(t *testing.T) {
	next := treetest.Generator(10)
	for _, n := range []int{100, 1000, 1<<16 - 1, 1 << 16, 1<<16 + 1, 200000} {
		for range 10 {
			entries := spaced(next, n)
			if got, want := Of(entries), modelOf(entries); got != want {
				t.Errorf("P11.1: Of %d entries: %v, want %v", n, got, want)
			}
		}
	}
}

// TestAddByHand has sums that were found without the model.
func TestAddByHand(t *testing.T) {
	const least, greatest = math.MinInt64, math.MaxInt64
	for _, c := range []struct{ x, y, want api.Summary }{
		{api.Summary{}, api.Summary{}, api.Summary{}},
		{totals(1, 3, 3, 3), api.Summary{}, totals(1, 3, 3, 3)},
		{api.Summary{}, totals(1, -3, -3, -3), totals(1, -3, -3, -3)},
		{totals(1, 3, 3, 3), totals(2, 9, 4, 5), totals(3, 12, 3, 5)},
		{totals(2, 9, 4, 5), totals(1, 3, 3, 3), totals(3, 12, 3, 5)},
		{totals(2, -9, -5, -4), totals(2, -6, -3, -3), totals(4, -15, -5, -3)},
		{totals(1, greatest, greatest, greatest), totals(1, 1, 1, 1), totals(2, least, 1, greatest)},
		{totals(1, least, least, least), totals(1, -1, -1, -1), totals(2, greatest, least, -1)},
		// A summary with the Count 0 says nothing, whatever else is in it.
		{totals(0, 5, -7, 8), totals(1, 3, 3, 3), totals(1, 3, 3, 3)},
		{totals(1, 3, 3, 3), totals(0, 5, -7, 8), totals(1, 3, 3, 3)},
		{totals(0, 5, -7, 8), totals(0, 1, 2, 3), totals(0, 1, 2, 3)},
		{totals(0, 5, -7, 8), api.Summary{}, api.Summary{}},
		{api.Summary{}, totals(0, 5, -7, 8), totals(0, 5, -7, 8)},
		// Counts that no list has are added, too.
		{totals(-1, 4, 6, 2), totals(3, 5, 7, 1), totals(2, 9, 6, 2)},
		{totals(-3, 4, 6, 2), totals(3, 5, 7, 1), totals(0, 9, 6, 2)},
	} {
		if got := Add(c.x, c.y); got != c.want {
			t.Errorf("P11.2: Add(%v, %v): %v, want %v", c.x, c.y, got, c.want)
		}
	}
}

// TestAdd has all pairs of summaries of some fields, also of those that no list has.
func TestAdd(t *testing.T) {
	var all []api.Summary
	for _, count := range []int{0, 1, 2, 1 << 16, math.MaxInt, math.MinInt, -1} {
		for _, sum := range []int64{math.MinInt64, -1, 0, 7, math.MaxInt64} {
			for _, least := range []int64{math.MinInt64, -3, 0, 5, math.MaxInt64} {
				for _, greatest := range []int64{math.MinInt64, -2, 0, 6, math.MaxInt64} {
					all = append(all, api.Summary{Count: count, Sum: sum, Min: least, Max: greatest})
				}
			}
		}
	}
	for _, x := range all {
		for _, y := range all {
			if got, want := Add(x, y), modelAdd(x, y); got != want {
				t.Fatalf("P11.2: Add(%v, %v): %v, want %v", x, y, got, want)
			}
		}
	}
}

// TestAddParts holds that the summaries of the parts of a list add up to that of the list, wherever it is cut.
func TestAddParts(t *testing.T) {
	lists(func(entries []api.Entry) {
		for cut := range len(entries) + 1 {
			x, y := Of(entries[:cut]), Of(entries[cut:])
			if got, want := Add(x, y), Of(entries); got != want {
				t.Fatalf("P11.2: %v cut at %d: %v, want %v", entries, cut, got, want)
			}
		}
	})
}

// TestEmptyTree has the empty tree in an empty arena and in one with nodes.
func TestEmptyTree(t *testing.T) {
	a := treetest.NewArena(t, 3)
	fixture{a, 0, nil}.compareAll(t)
	treetest.Full(3).Plant(t, a, spaced(treetest.Generator(10), 3))
	fixture{a, 0, nil}.compareAll(t)
	if got := Range(a, 0, math.MinInt64, math.MaxInt64); got != (api.Summary{}) {
		t.Errorf("P11.3: Range of the empty tree: %v", got)
	}
	if got := Prefix(a, 0, math.MaxInt); got != (api.Summary{}) {
		t.Errorf("P11.3: Prefix of the empty tree: %v", got)
	}
}

// byHand is a tree with the least and the greatest integer as keys.
func byHand(t *testing.T) fixture {
	t.Helper()
	return plant(t, treetest.Full(5), treetest.NewArena(t, 5), withValues(math.MinInt64, 4, -3, -6, 0, 1, 7, 9, math.MaxInt64, 2))
}

// TestRangeByHand has summaries that were found without the model.
func TestRangeByHand(t *testing.T) {
	f := byHand(t)
	for _, c := range []struct {
		lo, hi int64
		want   api.Summary
	}{
		{math.MinInt64, math.MaxInt64, totals(5, 10, -6, 9)}, {math.MinInt64 + 1, math.MaxInt64 - 1, totals(3, 4, -6, 9)},
		{math.MinInt64, math.MinInt64, totals(1, 4, 4, 4)}, {math.MaxInt64, math.MaxInt64, totals(1, 2, 2, 2)},
		{math.MinInt64, math.MaxInt64 - 1, totals(4, 8, -6, 9)}, {math.MinInt64 + 1, math.MaxInt64, totals(4, 6, -6, 9)},
		{math.MinInt64, -3, totals(2, -2, -6, 4)}, {math.MinInt64, -4, totals(1, 4, 4, 4)},
		{0, math.MaxInt64, totals(3, 12, 1, 9)}, {1, math.MaxInt64, totals(2, 11, 2, 9)},
		{-3, 7, totals(3, 4, -6, 9)}, {-2, 6, totals(1, 1, 1, 1)}, {-3, -3, totals(1, -6, -6, -6)},
		{-3, 0, totals(2, -5, -6, 1)}, {-2, 7, totals(2, 10, 1, 9)},
		{-2, -1, api.Summary{}}, {-2, -2, api.Summary{}}, {8, math.MaxInt64 - 1, api.Summary{}},
		{7, -3, api.Summary{}}, {0, -1, api.Summary{}}, {1, 0, api.Summary{}}, {7, 0, api.Summary{}}, {-3, -4, api.Summary{}},
		{math.MaxInt64, math.MinInt64, api.Summary{}}, {math.MaxInt64, 7, api.Summary{}}, {0, math.MinInt64, api.Summary{}},
		{math.MinInt64 + 1, math.MinInt64, api.Summary{}}, {math.MaxInt64, math.MaxInt64 - 1, api.Summary{}},
	} {
		if got := Range(f.arena, f.root, c.lo, c.hi); got != c.want {
			t.Errorf("P11.3: Range(%d, %d): %v, want %v", c.lo, c.hi, got, c.want)
		}
	}
}

// TestPrefixByHand has summaries that were found without the model.
func TestPrefixByHand(t *testing.T) {
	f := byHand(t)
	for _, c := range []struct {
		i    int
		want api.Summary
	}{
		{math.MinInt, api.Summary{}}, {-1, api.Summary{}}, {0, api.Summary{}},
		{1, totals(1, 4, 4, 4)}, {2, totals(2, -2, -6, 4)}, {3, totals(3, -1, -6, 4)}, {4, totals(4, 8, -6, 9)},
		{5, totals(5, 10, -6, 9)}, {6, totals(5, 10, -6, 9)}, {math.MaxInt, totals(5, 10, -6, 9)},
	} {
		if got := Prefix(f.arena, f.root, c.i); got != c.want {
			t.Errorf("P11.3: Prefix(%d): %v, want %v", c.i, got, c.want)
		}
	}
}

// TestAllTrees has each balanced tree of up to nine nodes, with several lists of values.
func TestAllTrees(t *testing.T) {
	const most = 9
	a := treetest.NewArena(t, most)
	next := treetest.Generator(10)
	for n := range most + 1 {
		for _, s := range treetest.All(n) {
			for range 8 {
				f := plant(t, s, a, spaced(next, n))
				f.compareAll(t)
				a.Release(f.root)
			}
		}
	}
}

// TestExtremeKeys has all trees whose keys are among some that are at the ends of the integers and around 0.
func TestExtremeKeys(t *testing.T) {
	keys := []int64{math.MinInt64, math.MinInt64 + 1, -1, 0, 1, math.MaxInt64 - 1, math.MaxInt64}
	a := treetest.NewArena(t, len(keys))
	next := treetest.Generator(10)
	for set := range 1 << len(keys) {
		var chosen []int64
		for bit, key := range keys {
			if set>>bit&1 == 1 {
				chosen = append(chosen, key)
			}
		}
		for _, s := range treetest.All(len(chosen)) {
			f := plant(t, s, a, withKeys(next, chosen...))
			f.comparePrefixes(t)
			for _, lo := range keys {
				for _, hi := range keys {
					f.compareRange(t, lo, hi)
				}
			}
			a.Release(f.root)
		}
	}
}

// TestFarKeys has keys whose difference is greater than every integer, and keys that are equal modulo 2^32.
func TestFarKeys(t *testing.T) {
	a := treetest.NewArena(t, 7)
	next := treetest.Generator(10)
	for _, keys := range [][]int64{
		{-3 << 61, -1 << 62, 1 << 62, 3 << 61},
		{1, 1<<32 + 1, 1<<33 + 1, 1<<34 + 1},
		{-1 << 33, -1 << 32, 0, 1 << 32, 1 << 33},
		{math.MinInt32 - 1, math.MinInt32, math.MaxInt32, math.MaxInt32 + 1, math.MaxUint32, math.MaxUint32 + 1},
	} {
		for _, s := range treetest.All(len(keys)) {
			f := plant(t, s, a, withKeys(next, keys...))
			f.compareAll(t)
			a.Release(f.root)
		}
	}
}

// TestValues has trees of all lists of five values of some: the least and the greatest one are anywhere, and sums wrap around.
func TestValues(t *testing.T) {
	values := []int64{math.MinInt64, -1, 0, 2, math.MaxInt64}
	const n = 5
	a := treetest.NewArena(t, n)
	shapes := treetest.All(n)
	for list := range 5 * 5 * 5 * 5 * 5 {
		entries := make([]api.Entry, n)
		rest := list
		for i := range entries {
			entries[i] = api.Entry{Key: int64(2 * i), Value: values[rest%5]}
			rest /= 5
		}
		f := plant(t, shapes[list%len(shapes)], a, entries)
		f.compareAll(t)
		a.Release(f.root)
	}
}

// TestPositionsOutside has numbers of entries that would be in the tree if some of their bits were left out.
func TestPositionsOutside(t *testing.T) {
	next := treetest.Generator(10)
	f := plant(t, treetest.Random(6, next), treetest.NewArena(t, 6), spaced(next, 6))
	for shift := range 64 {
		for i := -7; i <= 7; i++ {
			f.comparePrefix(t, i+1<<shift)
			f.comparePrefix(t, i-1<<shift)
		}
	}
}

// TestRandomTrees has larger trees of many shapes.
func TestRandomTrees(t *testing.T) {
	next := treetest.Generator(10)
	for range 100 {
		n := next(150)
		f := plant(t, treetest.Random(n, next), treetest.NewArena(t, 150), spaced(next, n))
		f.compareSome(t, next)
	}
}

// entriesOf returns the entries of the subtree i.
func entriesOf(a *arena.Arena, i uint32) []api.Entry {
	n, ok := a.Node(i)
	if !ok {
		return nil
	}
	entries := append(entriesOf(a, n.Left), api.Entry{Key: n.Key, Value: n.Value})
	return append(entries, entriesOf(a, n.Right)...)
}

// TestSubtrees has each subtree of a tree as a tree of its own: the keys above it do not count.
func TestSubtrees(t *testing.T) {
	next := treetest.Generator(10)
	f := plant(t, treetest.Random(60, next), treetest.NewArena(t, 60), spaced(next, 60))
	for i := uint32(1); i <= 60; i++ {
		sub := fixture{f.arena, i, entriesOf(f.arena, i)}
		sub.compareSome(t, next)
		for _, e := range f.entries {
			sub.compareRange(t, e.Key, e.Key+int64(next(20)))
		}
	}
}

// TestVersions has trees that share subtrees, and of which some are released again.
func TestVersions(t *testing.T) {
	a := treetest.NewArena(t, 40)
	next := treetest.Generator(10)
	base := plant(t, treetest.Full(15), a, spaced(next, 15))
	old, _ := a.Node(base.root)
	var versions []fixture
	for _, value := range []int64{5, math.MinInt64, math.MaxInt64, 0, -2000, 2000} {
		entries := slices.Clone(base.entries)
		at := slices.IndexFunc(entries, func(e api.Entry) bool { return e.Key == old.Key })
		entries[at].Value = value
		root, _ := a.Make(old.Key, value, old.Left, old.Right)
		versions = append(versions, fixture{a, root, entries})
	}
	a.Release(base.root)
	a.Release(versions[0].root)
	treetest.Full(15).Plant(t, a, spaced(next, 15))
	for _, f := range versions[1:] {
		f.compareAll(t)
	}
}

// TestThinnestTrees has trees of all heights that an arena has room for, each as high as it can be, and the keys around the end of the longest path.
func TestThinnestTrees(t *testing.T) {
	a := treetest.NewArena(t, api.MaxSlots)
	next := treetest.Generator(10)
	for _, way := range [][]bool{{true}, {false}, {true, false}, {false, true}, {true, true, false}} {
		for height := 1; shape.MinKeys(height) <= api.MaxSlots; height++ {
			s := treetest.Thinnest(height, way)
			f := plant(t, s, a, spaced(next, s.Size()))
			if s.Height() != height {
				t.Fatalf("height %d, want %d", s.Height(), height)
			}
			deep := s.Deepest()
			for i := deep - 1; i <= deep+2; i++ {
				f.comparePrefix(t, i)
				key := f.entries[deep].Key + int64(i-deep)
				f.compareRange(t, key, key)
				f.compareRange(t, math.MinInt64, key)
				f.compareRange(t, key, math.MaxInt64)
			}
			f.compareRange(t, math.MinInt64, math.MaxInt64)
			f.compareRange(t, f.entries[0].Key+1, f.entries[len(f.entries)-1].Key-1)
			a.Release(f.root)
		}
	}
}

// TestFullArena has a tree that uses every slot: more keys than 16 bits can count.
func TestFullArena(t *testing.T) {
	f := plant(t, treetest.Full(api.MaxSlots), treetest.NewArena(t, api.MaxSlots), spaced(treetest.Generator(10), api.MaxSlots))
	if f.arena.Free() != 0 {
		t.Fatalf("P5.2: %d free", f.arena.Free())
	}
	for _, i := range []int{math.MinInt, -1, 0, 1, 1<<15 - 1, 1 << 15, api.MaxSlots - 1, api.MaxSlots, api.MaxSlots + 1, math.MaxInt} {
		f.comparePrefix(t, i)
	}
	first, last := f.entries[0].Key, f.entries[api.MaxSlots-1].Key
	for i := 0; i < api.MaxSlots; i += 1021 {
		key := f.entries[i].Key
		f.comparePrefix(t, i)
		f.compareRange(t, first, key)
		f.compareRange(t, key, last)
		f.compareRange(t, key-3000, key+3000)
		f.compareRange(t, min(key, -key)+1, max(key, -key))
	}
	f.compareRange(t, first, last)
	f.compareRange(t, first+1, last-1)
	f.compareRange(t, last, first)
	if s := Range(f.arena, f.root, math.MinInt64, math.MaxInt64); s.Count != api.MaxSlots {
		t.Errorf("P11.3: Range: %v", s)
	}
}

// TestTwoArenas has the same indexes in two arenas, in turn.
func TestTwoArenas(t *testing.T) {
	next := treetest.Generator(10)
	f := plant(t, treetest.Full(9), treetest.NewArena(t, 9), spaced(next, 9))
	g := plant(t, treetest.Full(9), treetest.NewArena(t, 20), withKeys(next, -50, -30, 2, 3, 4, 5, 6, 7, 80))
	if f.root != g.root {
		t.Fatalf("roots %d and %d", f.root, g.root)
	}
	for i := range 10 {
		for _, x := range []fixture{f, g} {
			x.comparePrefix(t, i)
			for _, key := range []int64{-40, -6, 0, 3, 5, 12} {
				x.compareRange(t, key, key+int64(3*i))
			}
		}
	}
}

// callAll calls every function that reads the arena.
func callAll(a *arena.Arena, root uint32, key int64) {
	Prefix(a, root, int(key))
	Range(a, root, key, key)
	Range(a, root, math.MinInt64, key)
	Range(a, root, key, math.MaxInt64)
	Range(a, root, math.MinInt64, math.MaxInt64)
	Range(a, root, math.MaxInt64, key)
}

// unchanged runs calls and holds that the arena is the same afterwards.
func unchanged(t *testing.T, a *arena.Arena, calls func()) {
	t.Helper()
	before := a.Dump()
	calls()
	after := a.Dump()
	if !slices.Equal(before.Slots, after.Slots) || !slices.Equal(before.Free, after.Free) {
		t.Errorf("the arena has changed: %v, %v", before, after)
	}
}

func TestNothingChanges(t *testing.T) {
	a := treetest.NewArena(t, 40)
	next := treetest.Generator(10)
	f := plant(t, treetest.Full(20), a, spaced(next, 20))
	a.Release(treetest.Full(10).Plant(t, a, spaced(next, 10)))
	unchanged(t, a, func() {
		for range 2 {
			f.compareAll(t)
			fixture{a, 0, nil}.compareAll(t)
			callAll(a, 30, 0)
			callAll(a, math.MaxUint32, 0)
		}
	})
}

// TestRootInvalid has roots that are no index. Of these the document says only that the functions return; those that are slots modulo 2^16 or as a signed number are among them.
func TestRootInvalid(t *testing.T) {
	const capacity = 4
	for allocated := range capacity + 1 {
		a := treetest.NewArena(t, capacity)
		treetest.Full(allocated).Plant(t, a, spaced(treetest.Generator(10), allocated))
		unchanged(t, a, func() {
			for _, i := range []uint32{1, 2, 3, 4, 5, 6, api.MaxSlots, api.MaxSlots + 1, 1<<17 + 1, 1 << 31, 1<<31 + 1, math.MaxUint32 - 1, math.MaxUint32} {
				for _, key := range []int64{math.MinInt64, -3, -1, 0, 1, math.MaxInt64} {
					callAll(a, i, key)
				}
			}
		})
	}
}

// TestReleasedRoot holds that a slot that was released is a tree again as soon as it is allocated again, and then the new one.
func TestReleasedRoot(t *testing.T) {
	a := treetest.NewArena(t, 3)
	next := treetest.Generator(10)
	for n := range 9 {
		entries := withKeys(next, int64(n), int64(2*n+1), 30)[:1+n%3]
		f := plant(t, treetest.Full(len(entries)), a, entries)
		f.compareAll(t)
		a.Release(f.root)
		callAll(a, f.root, 0)
	}
}

// TestNoTree has indexes that are not trees: chains, keys in the wrong order, and subtrees that occur so often that a traversal would not end.
func TestNoTree(t *testing.T) {
	for _, step := range []int64{-1, 0, 1} {
		for _, left := range []bool{true, false} {
			a := treetest.NewArena(t, api.MaxSlots)
			root := uint32(0)
			for k := range int64(api.MaxSlots) {
				e := api.Entry{Key: step * k}
				if left {
					root = treetest.MakeNode(t, a, root, e, 0)
				} else {
					root = treetest.MakeNode(t, a, 0, e, root)
				}
			}
			for _, key := range []int64{math.MinInt64, -1000, -1, 0, 1000, math.MaxInt64} {
				callAll(a, root, key)
			}
		}
		a := treetest.NewArena(t, 31)
		root := uint32(0)
		for k := range int64(31) {
			root, _ = a.Make(step*k, 0, root, root)
			for _, key := range []int64{math.MinInt64, -15, 0, 15, 1 << 30, math.MaxInt64} {
				callAll(a, root, key)
			}
		}
	}
}

// TestCircles has circles and children that are not allocated. A caller makes them that releases references that it does not hold. The functions return nevertheless.
func TestCircles(t *testing.T) {
	for _, left := range []bool{true, false} {
		a := treetest.NewArena(t, 3)
		child := func(i uint32) (uint32, uint32) {
			if left {
				return i, 0
			}
			return 0, i
		}
		keys := []int64{math.MinInt64, -1, 0, 1, 2, 3, 4, 1000, math.MaxInt64}
		leaf, _ := a.Make(1, 0, 0, 0)
		l, r := child(leaf)
		above, _ := a.Make(2, 0, l, r)
		a.Release(leaf)
		a.Release(leaf)
		for _, key := range keys {
			callAll(a, above, key)
		}
		l, r = child(above)
		if below, _ := a.Make(3, 0, l, r); below != leaf {
			t.Fatalf("slot %d, want %d", below, leaf)
		}
		for _, key := range keys {
			callAll(a, above, key)
			callAll(a, leaf, key)
		}
	}
}

// TestReleasedTooOften has callers that release references that they do not hold.
func TestReleasedTooOften(t *testing.T) {
	const capacity = 5
	a := treetest.NewArena(t, capacity)
	next := treetest.Generator(10)
	for range 20000 {
		i, j := uint32(next(capacity+2)), uint32(next(capacity+2))
		if next(2) == 0 {
			a.Make(int64(next(9)), 0, i, j)
		} else {
			a.Release(i)
		}
		for i := range uint32(capacity + 2) {
			callAll(a, i, int64(next(11)-1))
		}
	}
}
