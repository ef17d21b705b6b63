package update

import (
	"math"
	"slices"
	"testing"

	"versionmap/api"
	"versionmap/arena"
	"versionmap/treetest"
)

// run makes calls with trees that are results of earlier ones, so that they share nodes, slots are used again, and too few are often free. It returns how often each function succeeded.
func run(in *treetest.Fixture, calls int, next func(int) int) map[string]int {
	f := fixture{in}
	done := map[string]int{}
	count := func(name string, err api.Errno) {
		if err == api.OK {
			done[name]++
		}
	}
	for range calls {
		root := uint32(0)
		if len(f.Held) > 0 && next(40) > 0 {
			root = f.Held[next(len(f.Held))]
		}
		key, value := int64(next(100)-50), int64(next(5)-2)
		if node, ok := f.Arena.Node(root); ok && next(4) == 0 {
			key = node.Key
		}
		switch next(5) {
		case 0, 1:
			_, err := f.insert(root, api.Entry{Key: key, Value: value})
			count("Insert", err)
		case 2, 3:
			_, err := f.delete(root, key)
			count("Delete", err)
		default:
			_, err := f.increase(root, key, value)
			count("Increase", err)
		}
		if len(f.Held) > 12 || next(9) == 0 && len(f.Held) > 0 {
			f.Release(f.Held[next(len(f.Held))])
		}
	}
	return done
}

// TestLongRuns has arenas in which slots are scarce or not.
func TestLongRuns(t *testing.T) {
	for _, capacity := range []int{50, 100, 200, 1500} {
		treetest.LongRuns(t, capacity, 6000, run, "Insert", "Delete", "Increase")
	}
}

func TestSameCalls(t *testing.T) {
	treetest.SameCalls(t, 300, run)
}

// orders returns the numbers before n in several orders.
func orders(n int) [][]int {
	var ascending, inwards, mixed []int
	next := treetest.Generator(14)
	for i := range n {
		ascending = append(ascending, i)
		if i%2 == 0 {
			inwards = append(inwards, i/2)
		} else {
			inwards = append(inwards, n-1-i/2)
		}
		mixed = slices.Insert(mixed, next(i+1), i)
	}
	descending, outwards := slices.Clone(ascending), slices.Clone(inwards)
	slices.Reverse(descending)
	slices.Reverse(outwards)
	return [][]int{ascending, descending, inwards, outwards, mixed}
}

// TestGrowAndShrink builds a tree entry by entry, and takes it apart in each order.
func TestGrowAndShrink(t *testing.T) {
	const n = 200
	entries := treetest.Spaced(n)
	for _, growing := range orders(n) {
		f := newFixture(t, 2*n)
		root := uint32(0)
		f.Held = append(f.Held, root)
		step := func(result uint32, err api.Errno) {
			f.T.Helper()
			if err != api.OK {
				t.Fatalf("P14.1, P14.2: %d", err)
			}
			f.Release(root)
			root = result
		}
		for _, at := range growing {
			step(f.insert(root, entries[at]))
		}
		grown := root
		for _, shrinking := range orders(n) {
			root = grown
			f.Arena.Retain(grown)
			f.Held = append(f.Held, grown)
			for _, at := range shrinking {
				step(f.delete(root, entries[at].Key))
			}
			if root != 0 {
				t.Errorf("P14.2: %d without its entries", root)
			}
		}
	}
}

// TestManyVersions keeps all trees on the way, and holds that they stay as they are.
func TestManyVersions(t *testing.T) {
	f := newFixture(t, 6000)
	next := treetest.Generator(3)
	roots := []uint32{0}
	lists := [][]api.Entry{nil}
	for range 500 {
		from := next(len(roots))
		e := api.Entry{Key: int64(next(90)), Value: int64(next(9))}
		list := with(lists[from], e)
		call := f.insert
		if _, present := valueOf(lists[from], e.Key); present && next(3) > 0 {
			call = func(root uint32, e api.Entry) (uint32, api.Errno) { return f.delete(root, e.Key) }
			list = without(lists[from], e.Key)
		}
		got, err := call(roots[from], e)
		if err != api.OK {
			t.Fatalf("P14.1, P14.2: %d", err)
		}
		roots, lists = append(roots, got), append(lists, list)
	}
	d := f.Arena.Dump()
	for k, root := range roots {
		if list := treetest.Listing(d, root); !slices.Equal(list, lists[k]) {
			t.Errorf("P50.3: the tree %d has become %v, want %v", k, list, lists[k])
		}
	}
}

// callAll calls the functions with an index that need not be a tree. Of these, the document says only that the functions return. If all children are there, no result has lost an entry.
func callAll(t treetest.T, a *arena.Arena, root uint32, key int64, intact bool) []uint32 {
	t.Helper()
	size := a.Size(root)
	more, value, found, err := Insert(a, root, api.Entry{Key: key, Value: 7})
	treetest.Failure(t, "Insert", err, more == 0 && value == 0 && !found)
	less, value, deleteErr := Delete(a, root, key)
	treetest.Failure(t, "Delete", deleteErr, less == 0 && value == 0)
	sum, value, sumErr := Increase(a, root, key, 1)
	treetest.Failure(t, "Increase", sumErr, sum == 0 && value == 0)
	switch added := a.Size(more) - size; {
	case !intact:
	case err == api.OK && added != 1 && (added != 0 || !found),
		deleteErr == api.OK && a.Size(less) != size-1,
		sumErr == api.OK && a.Size(sum) != size && a.Size(sum) != size+1:
		t.Fatalf("%d, %d: entries are lost: %d, %d, %d", root, key, more, less, sum)
	}
	return []uint32{more, less, sum}
}

// callAndRelease is for arenas in which callers release only what they hold.
func (f fixture) callAndRelease(root uint32, key int64) {
	f.T.Helper()
	f.Dismiss(callAll(f.T, f.Arena, root, key, true))
}

func TestInvalidIndexes(t *testing.T) {
	for _, capacity := range []int{1, 11, 200} {
		f := newFixture(t, capacity)
		for _, i := range treetest.NoIndexes() {
			for _, key := range []int64{math.MinInt64, -5, 0, 1000, math.MaxInt64} {
				callAndCount(t, f.Arena, i, key)
				if got, value, err := Delete(f.Arena, i, key); got != 0 || value != 0 || err != api.ErrNotFound {
					t.Errorf("P14.2: the index %d: %d, %d, %d", i, got, value, err)
				}
			}
		}
	}
}

// TestReleasedRoot has the index of a tree that was released.
func TestReleasedRoot(t *testing.T) {
	f, root := plantWith(t, treetest.Full(9), treetest.Spaced(9), 50)
	f.Release(root)
	for key := int64(-15); key <= 15; key++ {
		callAndCount(t, f.Arena, root, key)
	}
}

// TestChains has trees that are as high as they have nodes.
func TestChains(t *testing.T) {
	treetest.Chains(t, func(in *treetest.Fixture, root uint32, nodes int) {
		f, n := fixture{in}, int64(nodes)
		for _, key := range []int64{0, 1, 2, 7, -9, -2, n, -n, 1 << 40, -1 << 40} {
			f.callAndRelease(root, key)
		}
		// A tree would need no more slots than this. A chain needs more, so that calls fail on any level.
		for free := 450; free > 120; free -= 1 + nodes/600 {
			f.Leave(free)
			f.callAndRelease(root, n/2)
			f.callAndRelease(root, -n/2)
		}
	})
}

func TestDoubledTrees(t *testing.T) {
	treetest.Doubled(t, func(in *treetest.Fixture, root uint32) {
		for _, key := range []int64{-50, -15, -1, 0, 1, 15, 50} {
			fixture{in}.callAndRelease(root, key)
		}
	})
}

// callAndCount is for indexes of slots that are free, and for arenas in which children are missing or nodes are in circles.
func callAndCount(t *testing.T, a *arena.Arena, root uint32, key int64) {
	t.Helper()
	treetest.SameCounts(t, a, func() []uint32 { return callAll(t, a, root, key, false) })
}

// TestCircles holds that the functions return for circles, too, with few free slots and with many.
func TestCircles(t *testing.T) {
	treetest.Circles(t, func(f *treetest.Fixture, root uint32) {
		for _, free := range []int{2900, 60, 20, 1} {
			f.Leave(free)
			for _, key := range []int64{math.MinInt64, -15, 0, 1, 2, 3, 4, 5, 12, 13, math.MaxInt64} {
				callAndCount(t, f.Arena, root, key)
			}
		}
	})
}

// TestReleasedTooOften has callers that release references that they do not hold. One of the arenas has enough slots for all calls.
func TestReleasedTooOften(t *testing.T) {
	for _, capacity := range []int{9, 150} {
		a := newFixture(t, capacity).Arena
		next := treetest.Generator(uint64(capacity))
		treetest.Tangle(a, 20000, next, func(pick func() uint32) {
			callAndCount(t, a, pick(), int64(next(11)-1))
		})
	}
}
