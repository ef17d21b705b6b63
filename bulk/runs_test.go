package bulk

import (
	"math"
	"testing"

	"versionmap/api"
	"versionmap/arena"
	"versionmap/rank"
	"versionmap/treetest"
)

// mixed returns entries with ascending keys or, rarely, with a wrong one.
func mixed(next func(int) int) []api.Entry {
	entries := treetest.Spaced(next(60))
	for i := range entries {
		entries[i].Key += int64(next(3))
		entries[i].Value = int64(next(9))
	}
	if len(entries) > 1 && next(8) == 0 {
		entries[0].Key = entries[1].Key
	}
	return entries
}

// run makes calls with trees that are results of earlier ones, so that they share nodes, slots are used again, and too few are often free. It returns how often each function succeeded.
func run(in *treetest.Fixture, calls int, next func(int) int) map[string]int {
	f := fixture{in}
	done := map[string]int{}
	count := func(name string, err api.Errno) {
		if err == api.OK {
			done[name]++
		}
	}
	for range calls {
		root := uint32(0)
		if len(f.Held) > 0 {
			root = f.Held[next(len(f.Held))]
		}
		lo := int64(next(180) - 90)
		hi := lo + int64(next(60)) - 3
		switch next(5) {
		case 0:
			_, err := f.build(mixed(next))
			count("Build", err)
		case 1:
			_, err := f.keep(root, lo, hi)
			count("Keep", err)
		case 2:
			_, err := f.drop(root, lo, hi)
			count("Drop", err)
		default:
			r := reader{f, root, treetest.Listing(f.Arena.Dump(), root)}
			r.list()
			r.between(lo, hi, next(12))
			r.slice(next(30), next(60))
		}
		if len(f.Held) > 12 || next(9) == 0 && len(f.Held) > 0 {
			f.Release(f.Held[next(len(f.Held))])
		}
	}
	return done
}

// TestLongRuns has arenas in which slots are scarce or not.
func TestLongRuns(t *testing.T) {
	for _, capacity := range []int{150, 300, 500, 1500} {
		treetest.LongRuns(t, capacity, 5000, run, "Build", "Keep", "Drop")
	}
}

func TestSameCalls(t *testing.T) {
	treetest.SameCalls(t, 300, run)
}

// callAll calls the functions with an index that need not be a tree. Of these, the document says only that the functions return. If the keys are at least ascending, no result has lost an entry.
func callAll(t treetest.T, a *arena.Arena, root uint32, lo, hi int64, ascending bool) []uint32 {
	t.Helper()
	nodes, size := a.Capacity()-a.Free(), a.Size(root)
	for _, list := range [][]api.Entry{
		List(a, root), Range(a, root, lo, hi, 5), Range(a, root, lo, hi, math.MaxInt), Slice(a, root, 0, size), Slice(a, root, 1, 3),
	} {
		if len(list) > nodes {
			t.Fatalf("%d: a list of %d entries in an arena with %d nodes", root, len(list), nodes)
		}
	}
	kept, err := Keep(a, root, lo, hi)
	treetest.Failure(t, "Keep", err, kept == 0)
	dropped, alike := Drop(a, root, lo, hi)
	treetest.Failure(t, "Drop", alike, dropped == 0)
	inside := rank.Count(a, root, lo, hi)
	if ascending && (err == api.OK && a.Size(kept) != inside || alike == api.OK && a.Size(dropped) != size-inside) {
		t.Fatalf("%d, %d to %d: entries are lost: %d, %d", root, lo, hi, kept, dropped)
	}
	return []uint32{kept, dropped}
}

// callAndRelease is for arenas in which callers release only what they hold.
func (f fixture) callAndRelease(root uint32, lo, hi int64, ascending bool) {
	f.T.Helper()
	f.Dismiss(callAll(f.T, f.Arena, root, lo, hi, ascending))
}

// callAndCount is for indexes of slots that are free, and for arenas in which children are missing or nodes are in circles.
func callAndCount(t *testing.T, a *arena.Arena, root uint32, lo, hi int64) {
	t.Helper()
	treetest.SameCounts(t, a, func() []uint32 { return callAll(t, a, root, lo, hi, false) })
}

func TestInvalidIndexes(t *testing.T) {
	for _, capacity := range []int{1, 11, 200} {
		f := newFixture(t, capacity)
		for _, i := range treetest.NoIndexes() {
			for _, lo := range treetest.Extremes() {
				for _, hi := range treetest.Extremes() {
					callAndCount(t, f.Arena, i, lo, hi)
				}
			}
		}
	}
}

// TestReleasedRoot has the index of a tree that was released.
func TestReleasedRoot(t *testing.T) {
	f, root := plantWith(t, treetest.Full(9), treetest.Spaced(9), 90)
	f.Release(root)
	for key := int64(-15); key <= 15; key++ {
		callAndCount(t, f.Arena, root, key, 5)
		callAndCount(t, f.Arena, root, -5, key)
	}
}

// TestChains has trees that are as high as they have nodes.
func TestChains(t *testing.T) {
	treetest.Chains(t, func(in *treetest.Fixture, root uint32, nodes int) {
		f, n := fixture{in}, int64(nodes)
		for _, r := range [][2]int64{{0, 0}, {-9, 9}, {1, 7}, {-n, n}, {n, 3 * n}, {-3 * n, -n}, {math.MinInt64, 0}, {0, math.MaxInt64}} {
			f.callAndRelease(root, r[0], r[1], true)
		}
		// A tree would need no more slots than this. A chain may need more, so that calls fail on any level.
		for free := 500; free > 200; free -= 1 + nodes/600 {
			f.Leave(free)
			f.callAndRelease(root, -n/2, n/2, true)
		}
	})
}

// TestLongestChain has the longest chain that an arena has slots for.
func TestLongestChain(t *testing.T) {
	const nodes = api.MaxSlots - 600
	f := newFixture(t, api.MaxSlots)
	root := f.Chain(nodes, func(k int) bool { return k%3 == 0 })
	if list := List(f.Arena, root); len(list) != nodes {
		t.Errorf("rule 6: %d entries of %d", len(list), nodes)
	}
	f.callAndRelease(root, -nodes, nodes, true)
}

func TestDoubledTrees(t *testing.T) {
	treetest.Doubled(t, func(in *treetest.Fixture, root uint32) {
		for _, r := range [][2]int64{{-50, 50}, {-15, 15}, {0, 0}, {1, 15}, {-15, -1}, {30, 50}, {-50, -30}} {
			fixture{in}.callAndRelease(root, r[0], r[1], false)
		}
	})
}

// TestCircles holds that the functions return for circles, too, with few free slots and with many.
func TestCircles(t *testing.T) {
	treetest.Circles(t, func(f *treetest.Fixture, root uint32) {
		for _, free := range []int{2900, 130, 60, 1} {
			f.Leave(free)
			for lo := int64(-16); lo < 16; lo += 2 {
				for hi := lo - 1; hi < 16; hi += 3 {
					callAndCount(t, f.Arena, root, lo, hi)
				}
			}
		}
	})
}

// TestReleasedTooOften has callers that release references that they do not hold. One of the arenas has enough slots for all calls.
func TestReleasedTooOften(t *testing.T) {
	for _, capacity := range []int{9, 200} {
		a := newFixture(t, capacity).Arena
		next := treetest.Generator(uint64(capacity))
		treetest.Tangle(a, 20000, next, func(pick func() uint32) {
			lo := int64(next(11) - 1)
			callAndCount(t, a, pick(), lo, lo+int64(next(6)))
		})
	}
}
