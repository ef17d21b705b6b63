package setops

import (
	"slices"
	"testing"

	"versionmap/api"
	"versionmap/arena"
	"versionmap/reserve"
	"versionmap/treetest"
)

// calls makes calls with trees that are new or results of earlier calls, so that they share nodes, slots are used again, and too few are often free. It returns how often each function succeeded.
func calls(in *treetest.Fixture, number int, next func(int) int) map[string]int {
	f := fixture{in}
	done := map[string]int{}
	tree := func() uint32 {
		if len(f.Held) == 0 || next(15) == 0 {
			return 0
		}
		return f.Held[next(len(f.Held))]
	}
	for range number {
		if next(4) == 0 {
			f.plantSome(next)
		}
		r := rules()[next(4)]
		_, err := f.do(r, tree(), tree(), next(7))
		if err == api.OK {
			done[r.name]++
		}
		if len(f.Held) > 9 {
			f.Release(f.Held[:5]...)
		}
	}
	return done
}

// plantSome plants a tree with some of a few keys, if there are enough slots.
func (f fixture) plantSome(next func(int) int) {
	f.T.Helper()
	var entries []api.Entry
	for _, e := range treetest.Spaced(next(50)) {
		if next(3) > 0 {
			entries = append(entries, api.Entry{Key: e.Key, Value: int64(next(9) - 4)})
		}
	}
	if f.Arena.Free() >= len(entries) {
		f.Plant(treetest.Random(len(entries), next), entries)
	}
}

// TestLongRuns has arenas in which slots are scarce or not.
func TestLongRuns(t *testing.T) {
	for _, capacity := range []int{200, 350, 500, 1200} {
		treetest.LongRuns(t, capacity, 6000, calls, "Union", "Intersect", "Subtract", "Exclusive")
	}
}

func TestSameCalls(t *testing.T) {
	treetest.SameCalls(t, 400, calls)
}

// callAll calls the functions with indexes that need not be trees. Of these, the document says only that the functions return. It passes on each result, which is to be released.
func callAll(t treetest.T, a *arena.Arena, x, y uint32, pass func(r rule, policy int, result uint32)) {
	t.Helper()
	for _, r := range rules() {
		for _, policy := range r.policies() {
			got, err := r.run(a, x, y, policy)
			treetest.Failure(t, r.name, err, got == 0)
			pass(r, policy, got)
		}
	}
}

// callAndRelease is for arenas in which callers release only what they hold.
func (f fixture) callAndRelease(x, y uint32) {
	f.T.Helper()
	callAll(f.T, f.Arena, x, y, func(_ rule, _ int, result uint32) { f.Dismiss([]uint32{result}) })
}

// callAndCompare is for indexes whose keys are at least ascending. A result has the right entries.
func (f fixture) callAndCompare(x, y uint32) {
	f.T.Helper()
	before := f.Arena.Dump()
	inX, inY := treetest.Listing(before, x), treetest.Listing(before, y)
	callAll(f.T, f.Arena, x, y, func(r rule, policy int, result uint32) {
		list, want := treetest.Listing(f.Arena.Dump(), result), r.entries(inX, inY, policy)
		if result != 0 && !slices.Equal(list, want) {
			f.T.Fatalf("%s of chains, %d: %v, want %v", r.name, policy, list, want)
		}
		f.Dismiss([]uint32{result})
	})
}

// callAndCount is for indexes of slots that are free, and for arenas in which children are missing or nodes are in circles.
func callAndCount(t *testing.T, a *arena.Arena, x, y uint32) {
	t.Helper()
	treetest.SameCounts(t, a, func() []uint32 {
		callAll(t, a, x, y, func(_ rule, _ int, result uint32) {
			if result != 0 && a.Count(result) == 0 {
				t.Fatalf("P5.2: the result %d is no index", result)
			}
			a.Release(result)
		})
		return nil
	})
}

func TestInvalidIndexes(t *testing.T) {
	for _, n := range []int{0, 1, 7, 60} {
		f := newFixture(t, 500)
		root := f.Plant(treetest.Full(n), treetest.Spaced(n))
		for _, i := range append(treetest.NoIndexes(), 500) {
			for _, pair := range [][2]uint32{{i, root}, {root, i}, {i, i}, {i, 0}, {0, i}, {i, 501}, {502, i}} {
				f.callAndRelease(pair[0], pair[1])
			}
		}
	}
}

// TestReleasedRoot has the index of a tree that was released.
func TestReleasedRoot(t *testing.T) {
	f := newFixture(t, 200)
	x, y := f.Plant(treetest.Full(9), treetest.Spaced(9)), f.Plant(treetest.Full(9), treetest.Spaced(9))
	f.Release(x)
	callAndCount(t, f.Arena, x, y)
	callAndCount(t, f.Arena, y, x)
	callAndCount(t, f.Arena, x, x)
	callAndCount(t, f.Arena, x, 0)
	callAndCount(t, f.Arena, 0, x)
}

// TestChains has trees that are as high as they have nodes, with small trees. A tree would need no more slots than the most that are free. A chain may need more, so that calls fail on any level.
func TestChains(t *testing.T) {
	treetest.Chains(t, func(in *treetest.Fixture, root uint32, nodes int) {
		f := fixture{in}
		small := f.Plant(treetest.Full(20), treetest.Spaced(20))
		for _, free := range []int{nodes + 20 + 420, 100} {
			f.Leave(free)
			f.callAndCompare(root, small)
			f.callAndCompare(small, root)
			f.callAndCompare(root, root)
		}
	})
}

// TestTwoChains has two of these, with keys on both sides of 0.
func TestTwoChains(t *testing.T) {
	turns := []func(int) bool{
		func(int) bool { return true },
		func(int) bool { return false },
		func(k int) bool { return k%2 == 0 },
		func(k int) bool { return k%3 == 0 },
	}
	for _, nodes := range []int{50, 600} {
		for _, l := range turns {
			for _, r := range turns {
				room := reserve.SetOperation(nodes, nodes)
				f := newFixture(t, 2*nodes+room)
				f.callAndCompare(f.Chain(nodes, l), f.Chain(nodes, r))
			}
		}
	}
}

func TestDoubledTrees(t *testing.T) {
	treetest.Doubled(t, func(in *treetest.Fixture, root uint32) {
		f := fixture{in}
		small := f.Make(0, api.Entry{Key: 7, Value: 1}, 0)
		for _, y := range []uint32{root, small, in.Held[0], in.Held[len(in.Held)/2]} {
			f.callAndRelease(root, y)
			f.callAndRelease(y, root)
		}
		f.Release(small)
	})
}

// TestCircles holds that the functions return for circles, too, with few free slots and with many.
func TestCircles(t *testing.T) {
	treetest.Circles(t, func(f *treetest.Fixture, root uint32) {
		for n := 0; n < 30; n += 2 {
			f.Leave(2800)
			other := f.Plant(treetest.Full(n), treetest.Spaced(n))
			for _, free := range []int{2700, 300, 150, 80} {
				f.Leave(free)
				callAndCount(t, f.Arena, root, other)
				callAndCount(t, f.Arena, other, root)
				callAndCount(t, f.Arena, root, root)
			}
			f.Release(other)
		}
	})
}

// TestReleasedTooOften has callers that release references that they do not hold. One of the arenas has enough slots for all calls.
func TestReleasedTooOften(t *testing.T) {
	for _, capacity := range []int{60, 200} {
		a := newFixture(t, capacity).Arena
		next := treetest.Generator(uint64(capacity))
		treetest.Tangle(a, 20000, next, func(pick func() uint32) { callAndCount(t, a, pick(), pick()) })
	}
}
