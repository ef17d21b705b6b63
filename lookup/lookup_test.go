package lookup

import (
	"math"
	"slices"
	"testing"

	"versionmap/api"
	"versionmap/arena"
	"versionmap/shape"
	"versionmap/treetest"
)

type nearestFunction struct {
	name  string
	call  func(*arena.Arena, uint32, int64) (api.Entry, bool)
	model func([]api.Entry, int64) (api.Entry, bool)
}

// nearestFunctions returns the functions of P9.2, each with its wording for a list of entries with ascending keys.
func nearestFunctions() []nearestFunction {
	return []nearestFunction{
		{"Floor", Floor, func(l []api.Entry, key int64) (api.Entry, bool) {
			return lastOf(l, func(k int64) bool { return k <= key })
		}},
		{"Ceiling", Ceiling, func(l []api.Entry, key int64) (api.Entry, bool) {
			return firstOf(l, func(k int64) bool { return k >= key })
		}},
		{"Below", Below, func(l []api.Entry, key int64) (api.Entry, bool) {
			return lastOf(l, func(k int64) bool { return k < key })
		}},
		{"Above", Above, func(l []api.Entry, key int64) (api.Entry, bool) {
			return firstOf(l, func(k int64) bool { return k > key })
		}},
	}
}

func firstOf(l []api.Entry, wanted func(int64) bool) (api.Entry, bool) {
	for _, e := range l {
		if wanted(e.Key) {
			return e, true
		}
	}
	return api.Entry{}, false
}

func lastOf(l []api.Entry, wanted func(int64) bool) (api.Entry, bool) {
	l = slices.Clone(l)
	slices.Reverse(l)
	return firstOf(l, wanted)
}

// modelPath follows the wording of P9.3.
func modelPath(a *arena.Arena, root uint32, key int64) []uint32 {
	var path []uint32
	for i := root; i != 0; {
		path = append(path, i)
		node, _ := a.Node(i)
		switch {
		case key == node.Key:
			i = 0
		case key < node.Key:
			i = node.Left
		default:
			i = node.Right
		}
	}
	return path
}

// fixture is a tree with its entries.
type fixture struct {
	arena   *arena.Arena
	root    uint32
	entries []api.Entry
}

// reading runs call and holds P9.4.
func (f fixture) reading(t *testing.T, name string, call func()) {
	t.Helper()
	before := f.arena.Reads()
	call()
	most := 4 * (shape.MaxHeight(len(f.entries)) + 2)
	if reads := f.arena.Reads() - before; reads > uint64(most) {
		t.Fatalf("P9.4: %s: %d reads of a tree of %d keys, at most %d", name, reads, len(f.entries), most)
	}
}

// compareEnds compares First and Last with P9.1.
func (f fixture) compareEnds(t *testing.T) {
	t.Helper()
	var first, last, wantFirst, wantLast api.Entry
	var firstFound, lastFound bool
	f.reading(t, "First", func() { first, firstFound = First(f.arena, f.root) })
	f.reading(t, "Last", func() { last, lastFound = Last(f.arena, f.root) })
	n := len(f.entries)
	if n > 0 {
		wantFirst, wantLast = f.entries[0], f.entries[n-1]
	}
	if first != wantFirst || firstFound != (n > 0) {
		t.Fatalf("P9.1: First of %v: %v, %t", f.entries, first, firstFound)
	}
	if last != wantLast || lastFound != (n > 0) {
		t.Fatalf("P9.1: Last of %v: %v, %t", f.entries, last, lastFound)
	}
}

// compare compares the results of all functions for key with those of the model.
func (f fixture) compare(t *testing.T, key int64) {
	t.Helper()
	want, wantFound := firstOf(f.entries, func(k int64) bool { return k == key })
	f.reading(t, "Get", func() {
		t.Helper()
		if value, found := Get(f.arena, f.root, key); value != want.Value || found != wantFound {
			t.Fatalf("P9.1: Get(%d): %d, %t; want %d, %t", key, value, found, want.Value, wantFound)
		}
	})
	for _, n := range nearestFunctions() {
		want, wantFound := n.model(f.entries, key)
		f.reading(t, n.name, func() {
			t.Helper()
			if got, found := n.call(f.arena, f.root, key); got != want || found != wantFound {
				t.Fatalf("P9.2: %s(%d): %v, %t; want %v, %t", n.name, key, got, found, want, wantFound)
			}
		})
	}
	var path []uint32
	f.reading(t, "Path", func() { path = Path(f.arena, f.root, key) })
	if want := modelPath(f.arena, f.root, key); !slices.Equal(path, want) {
		t.Fatalf("P9.3: Path(%d): %d, want %d", key, path, want)
	}
}

// compareAll has all keys of the tree and those beside them.
func (f fixture) compareAll(t *testing.T) {
	t.Helper()
	f.compareEnds(t)
	for _, key := range []int64{math.MinInt64, 0, math.MaxInt64} {
		f.compare(t, key)
	}
	for _, e := range f.entries {
		f.compare(t, e.Key)
		f.compare(t, e.Key-1)
		f.compare(t, e.Key+1)
	}
}

// plant plants the tree in an arena and holds that it is one.
func plant(t *testing.T, s *treetest.Tree, a *arena.Arena, entries []api.Entry) fixture {
	t.Helper()
	root := s.Plant(t, a, entries)
	if err := shape.Check(a, root); err != api.OK {
		t.Fatalf("P7.3: %d", err)
	}
	return fixture{a, root, entries}
}

func TestExample(t *testing.T) {
	a := treetest.NewArena(t, 3)
	root := treetest.Full(3).Plant(t, a, []api.Entry{{Key: 1}, {Key: 4}, {Key: 9}})
	if e, ok := Floor(a, root, 5); !ok || e.Key != 4 {
		t.Errorf("P9.2: Floor(5): %v, %t", e, ok)
	}
	if e, ok := Ceiling(a, root, 5); !ok || e.Key != 9 {
		t.Errorf("P9.2: Ceiling(5): %v, %t", e, ok)
	}
	if e, ok := Below(a, root, 4); !ok || e.Key != 1 {
		t.Errorf("P9.2: Below(4): %v, %t", e, ok)
	}
	if e, ok := Above(a, root, 9); ok || e != (api.Entry{}) {
		t.Errorf("P9.2: Above(9): %v, %t", e, ok)
	}
}

// TestEmptyTree has the empty tree in an empty arena and in one with nodes.
func TestEmptyTree(t *testing.T) {
	a := treetest.NewArena(t, 3)
	fixture{a, 0, nil}.compareAll(t)
	treetest.Full(3).Plant(t, a, treetest.Spaced(3))
	fixture{a, 0, nil}.compareAll(t)
	if path := Path(a, 0, 1); len(path) != 0 {
		t.Errorf("P9.3: Path of the empty tree: %d", path)
	}
}

// TestAllTrees has each balanced tree of up to nine nodes.
func TestAllTrees(t *testing.T) {
	const most = 9
	a := treetest.NewArena(t, most)
	for n := range most + 1 {
		for _, s := range treetest.All(n) {
			f := plant(t, s, a, treetest.Spaced(n))
			f.compareAll(t)
			a.Release(f.root)
		}
	}
}

// TestExtremeKeys has all trees whose keys are among some that are at the ends of the integers and around 0.
func TestExtremeKeys(t *testing.T) {
	keys := []int64{math.MinInt64, math.MinInt64 + 1, -1, 0, 1, math.MaxInt64 - 1, math.MaxInt64}
	a := treetest.NewArena(t, len(keys))
	for set := range 1 << len(keys) {
		var entries []api.Entry
		for bit, key := range keys {
			if set>>bit&1 == 1 {
				entries = append(entries, api.Entry{Key: key, Value: int64(bit) - 3})
			}
		}
		for _, s := range treetest.All(len(entries)) {
			f := plant(t, s, a, entries)
			f.compareEnds(t)
			for _, key := range append([]int64{math.MinInt64 + 2, 2, math.MaxInt64 - 2}, keys...) {
				f.compare(t, key)
			}
			a.Release(f.root)
		}
	}
}

// TestFarKeys has keys whose difference is greater than every integer, and keys that are equal modulo 2^32.
func TestFarKeys(t *testing.T) {
	a := treetest.NewArena(t, 7)
	for _, keys := range [][]int64{
		{-3 << 61, -1 << 62, 1 << 62, 3 << 61},
		{1, 1<<32 + 1, 1<<33 + 1, 1<<34 + 1},
		{-1 << 33, -1 << 32, 0, 1 << 32, 1 << 33},
		{math.MinInt32 - 1, math.MinInt32, math.MaxInt32, math.MaxInt32 + 1, math.MaxUint32, math.MaxUint32 + 1},
	} {
		var entries []api.Entry
		for n, key := range keys {
			entries = append(entries, api.Entry{Key: key, Value: int64(n)})
		}
		for _, s := range treetest.All(len(keys)) {
			f := plant(t, s, a, entries)
			f.compareAll(t)
			a.Release(f.root)
		}
	}
}

// TestValues has values that say nothing about their keys: the zero value is found like every other one.
func TestValues(t *testing.T) {
	values := []int64{0, -1, math.MinInt64, math.MaxInt64, 0, 1, 5}
	var entries []api.Entry
	for n, value := range values {
		entries = append(entries, api.Entry{Key: int64(2 * n), Value: value})
	}
	f := plant(t, treetest.Full(len(entries)), treetest.NewArena(t, len(entries)), entries)
	f.compareAll(t)
	if value, ok := Get(f.arena, f.root, 0); value != 0 || !ok {
		t.Errorf("P9.1: Get(0): %d, %t", value, ok)
	}
	if value, ok := Get(f.arena, f.root, 1); value != 0 || ok {
		t.Errorf("P9.1: Get(1): %d, %t", value, ok)
	}
}

// TestPathByHand has paths that were found without the model.
func TestPathByHand(t *testing.T) {
	a := treetest.NewArena(t, 5)
	one := treetest.MakeNode(t, a, 0, api.Entry{Key: 10}, 0)
	three := treetest.MakeNode(t, a, 0, api.Entry{Key: 30}, 0)
	two := treetest.MakeNode(t, a, one, api.Entry{Key: 20}, three)
	five := treetest.MakeNode(t, a, 0, api.Entry{Key: 50}, 0)
	four := treetest.MakeNode(t, a, two, api.Entry{Key: 40}, five)
	for _, c := range []struct {
		root uint32
		key  int64
		want []uint32
	}{
		{four, 40, []uint32{four}},
		{four, 20, []uint32{four, two}},
		{four, 50, []uint32{four, five}},
		{four, 10, []uint32{four, two, one}},
		{four, 30, []uint32{four, two, three}},
		{four, 5, []uint32{four, two, one}},
		{four, 15, []uint32{four, two, one}},
		{four, 25, []uint32{four, two, three}},
		{four, 39, []uint32{four, two, three}},
		{four, 41, []uint32{four, five}},
		{four, math.MinInt64, []uint32{four, two, one}},
		{four, math.MaxInt64, []uint32{four, five}},
		{two, 40, []uint32{two, three}},
		{one, 10, []uint32{one}},
		{one, 11, []uint32{one}},
		{0, 10, nil},
	} {
		if got := Path(a, c.root, c.key); !slices.Equal(got, c.want) {
			t.Errorf("P9.3: Path(%d, %d): %d, want %d", c.root, c.key, got, c.want)
		}
	}
}

// TestPathIsNew holds that no two results share memory.
func TestPathIsNew(t *testing.T) {
	f := plant(t, treetest.Full(100), treetest.NewArena(t, 100), treetest.Spaced(100))
	want := Path(f.arena, f.root, 0)
	changed := Path(f.arena, f.root, 0)
	for n := range changed {
		changed[n] = 0
	}
	_ = append(changed[:0], 99, 98, 97)
	if got := Path(f.arena, f.root, 0); !slices.Equal(got, want) || len(want) == 0 || want[0] != f.root {
		t.Errorf("rule 3: Path: %d, %d", got, want)
	}
}

// TestRandomTrees has larger trees of many shapes.
func TestRandomTrees(t *testing.T) {
	next := treetest.Generator(9)
	for range 60 {
		n := next(150)
		f := plant(t, treetest.Random(n, next), treetest.NewArena(t, 150), treetest.Spaced(n))
		f.compareAll(t)
	}
}

// entriesOf returns the entries of the subtree i.
func entriesOf(a *arena.Arena, i uint32) []api.Entry {
	n, ok := a.Node(i)
	if !ok {
		return nil
	}
	entries := append(entriesOf(a, n.Left), api.Entry{Key: n.Key, Value: n.Value})
	return append(entries, entriesOf(a, n.Right)...)
}

// TestSubtrees has each subtree of a tree as a tree of its own: the keys above it do not count.
func TestSubtrees(t *testing.T) {
	f := plant(t, treetest.Random(60, treetest.Generator(9)), treetest.NewArena(t, 60), treetest.Spaced(60))
	for i := uint32(1); i <= 60; i++ {
		sub := fixture{f.arena, i, entriesOf(f.arena, i)}
		sub.compareEnds(t)
		for _, e := range f.entries {
			sub.compare(t, e.Key)
			sub.compare(t, e.Key+1)
		}
	}
}

// TestVersions has trees that share subtrees, and of which some are released again.
func TestVersions(t *testing.T) {
	a := treetest.NewArena(t, 40)
	base := plant(t, treetest.Full(15), a, treetest.Spaced(15))
	old, _ := a.Node(base.root)
	var versions []fixture
	for value := range int64(5) {
		entries := slices.Clone(base.entries)
		at := slices.IndexFunc(entries, func(e api.Entry) bool { return e.Key == old.Key })
		entries[at].Value = value
		root, _ := a.Make(old.Key, value, old.Left, old.Right)
		versions = append(versions, fixture{a, root, entries})
	}
	a.Release(base.root)
	a.Release(versions[0].root)
	treetest.Full(15).Plant(t, a, treetest.Spaced(15))
	for _, f := range versions[1:] {
		f.compareAll(t)
	}
}

// TestThinnestTrees has trees of all heights that an arena has room for, each as high as it can be, and the keys around the end of the longest path.
func TestThinnestTrees(t *testing.T) {
	a := treetest.NewArena(t, api.MaxSlots)
	for _, way := range treetest.Turns() {
		for height := 1; shape.MinKeys(height) <= api.MaxSlots; height++ {
			s := treetest.Thinnest(height, way)
			f := plant(t, s, a, treetest.Spaced(s.Size()))
			f.compareEnds(t)
			deep := f.entries[s.Deepest()].Key
			for _, key := range []int64{deep - 1, deep, deep + 1, math.MinInt64, math.MaxInt64} {
				f.compare(t, key)
			}
			if path := Path(a, f.root, deep); len(path) != height || height != s.Height() {
				t.Errorf("P9.3: a path of %d nodes, want %d", len(path), height)
			}
			a.Release(f.root)
		}
	}
}

// TestFullArena has a tree that uses every slot.
func TestFullArena(t *testing.T) {
	f := plant(t, treetest.Full(api.MaxSlots), treetest.NewArena(t, api.MaxSlots), treetest.Spaced(api.MaxSlots))
	if f.arena.Free() != 0 {
		t.Fatalf("P5.2: %d free", f.arena.Free())
	}
	f.compareEnds(t)
	for at := 0; at < api.MaxSlots; at += 1021 {
		f.compare(t, f.entries[at].Key)
		f.compare(t, f.entries[at].Key+1)
	}
	f.compare(t, f.entries[api.MaxSlots-1].Key)
	f.compare(t, f.entries[api.MaxSlots-1].Key+1)
}

// callAll calls every function.
func callAll(a *arena.Arena, root uint32, key int64) {
	Get(a, root, key)
	First(a, root)
	Last(a, root)
	Floor(a, root, key)
	Ceiling(a, root, key)
	Below(a, root, key)
	Above(a, root, key)
	Path(a, root, key)
}

// unchanged runs calls and holds that the arena is the same afterwards.
func unchanged(t *testing.T, a *arena.Arena, calls func()) {
	t.Helper()
	before := a.Dump()
	calls()
	after := a.Dump()
	if !slices.Equal(before.Slots, after.Slots) || !slices.Equal(before.Free, after.Free) {
		t.Errorf("the arena has changed: %v, %v", before, after)
	}
}

func TestNothingChanges(t *testing.T) {
	a := treetest.NewArena(t, 40)
	f := plant(t, treetest.Full(20), a, treetest.Spaced(20))
	a.Release(treetest.Full(10).Plant(t, a, treetest.Spaced(10)))
	unchanged(t, a, func() {
		for range 2 {
			f.compareAll(t)
			fixture{a, 0, nil}.compareAll(t)
			callAll(a, 30, 0)
			callAll(a, math.MaxUint32, 0)
		}
	})
}

// TestRootInvalid has roots that are no index. Of these the document says only that the functions return; those that are slots modulo 2^16 or as a signed number are among them.
func TestRootInvalid(t *testing.T) {
	const capacity = 4
	for allocated := range capacity + 1 {
		a := treetest.NewArena(t, capacity)
		treetest.Full(allocated).Plant(t, a, treetest.Spaced(allocated))
		unchanged(t, a, func() {
			for _, i := range []uint32{1, 2, 3, 4, 5, 6, api.MaxSlots, api.MaxSlots + 1, 1<<17 + 1, 1 << 31, 1<<31 + 1, math.MaxUint32 - 1, math.MaxUint32} {
				for _, key := range []int64{math.MinInt64, -3, 0, 1, math.MaxInt64} {
					callAll(a, i, key)
				}
			}
		})
	}
}

// TestReleasedRoot holds that a slot that was released is a tree again as soon as it is allocated again, and then the new one.
func TestReleasedRoot(t *testing.T) {
	a := treetest.NewArena(t, 1)
	for key := range int64(3) {
		entries := []api.Entry{{Key: key, Value: -key}}
		f := plant(t, treetest.Full(1), a, entries)
		f.compareAll(t)
		a.Release(f.root)
		callAll(a, f.root, key)
	}
}

// TestNoTree has indexes that are not trees: chains, keys in the wrong order, and subtrees that occur so often that a traversal would not end.
func TestNoTree(t *testing.T) {
	for _, step := range []int64{-1, 0, 1} {
		for _, left := range []bool{true, false} {
			a := treetest.NewArena(t, api.MaxSlots)
			root := uint32(0)
			for k := range int64(api.MaxSlots) {
				e := api.Entry{Key: step * k}
				if left {
					root = treetest.MakeNode(t, a, root, e, 0)
				} else {
					root = treetest.MakeNode(t, a, 0, e, root)
				}
			}
			for _, key := range []int64{math.MinInt64, -1000, 0, 1000, math.MaxInt64} {
				callAll(a, root, key)
			}
		}
		a := treetest.NewArena(t, 31)
		root := uint32(0)
		for k := range int64(31) {
			root, _ = a.Make(step*k, 0, root, root)
			for _, key := range []int64{math.MinInt64, -15, 0, 15, math.MaxInt64} {
				callAll(a, root, key)
			}
		}
	}
}

// TestCircles has circles and children that are not allocated. A caller makes them that releases references that it does not hold. The functions return nevertheless.
func TestCircles(t *testing.T) {
	for _, left := range []bool{true, false} {
		for _, key := range []int64{0, 4} {
			a := treetest.NewArena(t, 3)
			child := func(i uint32) (uint32, uint32) {
				if left {
					return i, 0
				}
				return 0, i
			}
			leaf, _ := a.Make(1, 0, 0, 0)
			l, r := child(leaf)
			above, _ := a.Make(2, 0, l, r)
			a.Release(leaf)
			a.Release(leaf)
			callAll(a, above, key)
			l, r = child(above)
			if below, _ := a.Make(3, 0, l, r); below != leaf {
				t.Fatalf("slot %d, want %d", below, leaf)
			}
			callAll(a, above, key)
			callAll(a, leaf, key)
			if left {
				callAll(a, leaf, math.MinInt64)
			} else {
				callAll(a, leaf, math.MaxInt64)
			}
		}
	}
}

// TestReleasedTooOften has callers that release references that they do not hold.
func TestReleasedTooOften(t *testing.T) {
	const capacity = 5
	a := treetest.NewArena(t, capacity)
	next := treetest.Generator(9)
	for range 20000 {
		i, j := uint32(next(capacity+2)), uint32(next(capacity+2))
		if next(2) == 0 {
			a.Make(int64(next(9)), 0, i, j)
		} else {
			a.Release(i)
		}
		for i := range uint32(capacity + 2) {
			callAll(a, i, int64(next(11)-1))
		}
	}
}
