package join

import (
	"math"
	"testing"

	"versionmap/api"
	"versionmap/arena"
	"versionmap/treetest"
)

// run makes calls with trees that are results of earlier ones, so that they share nodes, slots are used again, and too few are often free. It returns how often each function succeeded.
func run(in *treetest.Fixture, calls int, next func(int) int) map[string]int {
	f := fixture{in}
	done := map[string]int{}
	tree := func() uint32 {
		if len(f.Held) == 0 || next(12) == 0 {
			return 0
		}
		return f.Held[next(len(f.Held))]
	}
	count := func(name string, err api.Errno) {
		if err == api.OK {
			done[name]++
		}
	}
	for range calls {
		e := api.Entry{Key: int64(next(300)), Value: int64(next(1000) - 500)}
		switch kind := next(10); {
		case kind < 3:
			_, err := f.join(tree(), e, tree())
			count("Join", err)
		case kind < 5:
			_, err := f.concat(tree(), tree())
			count("Concat", err)
		case kind < 8:
			_, _, err := f.split(tree(), e.Key)
			count("Split", err)
		case len(f.Held) > 0:
			f.Release(f.Held[next(len(f.Held))])
		}
		if len(f.Held) > 12 {
			f.Release(f.Held[:4]...)
		}
	}
	return done
}

// TestLongRuns has arenas in which slots are scarce or not.
func TestLongRuns(t *testing.T) {
	for _, capacity := range []int{100, 180, 400, 1500} {
		treetest.LongRuns(t, capacity, 4000, run, "Join", "Concat", "Split")
	}
}

func TestSameCalls(t *testing.T) {
	treetest.SameCalls(t, 300, run)
}

// callAll calls the functions with indexes that need not be trees. Of these, the document says only that the functions return. If all children are there, no result has lost an entry.
func callAll(t treetest.T, a *arena.Arena, left, right uint32, key int64, intact bool) []uint32 {
	t.Helper()
	l, r := a.Size(left), a.Size(right)
	joined, err := Join(a, left, api.Entry{Key: key, Value: 1}, right)
	treetest.Failure(t, "Join", err, joined == 0)
	both, bothErr := Concat(a, left, right)
	treetest.Failure(t, "Concat", bothErr, both == 0)
	less, value, found, greater, splitErr := Split(a, left, key)
	treetest.Failure(t, "Split", splitErr, less == 0 && value == 0 && !found && greater == 0)
	rest := l - a.Size(less) - a.Size(greater)
	switch {
	case !intact:
	case err == api.OK && a.Size(joined) != l+1+r,
		bothErr == api.OK && a.Size(both) != l+r,
		splitErr == api.OK && rest != 0 && (rest != 1 || !found):
		t.Fatalf("%d and %d, %d: entries are lost: %d, %d, %d and %d", left, right, key, joined, both, less, greater)
	}
	return []uint32{joined, both, less, greater}
}

// callAndRelease is for arenas in which callers release only what they hold.
func (f fixture) callAndRelease(left, right uint32, key int64) {
	f.T.Helper()
	f.Dismiss(callAll(f.T, f.Arena, left, right, key, true))
}

func TestInvalidIndexes(t *testing.T) {
	for _, n := range []int{0, 1, 7, 60} {
		f := newFixture(t, 200)
		root := f.Plant(treetest.Full(n), treetest.Spaced(n))
		for _, i := range treetest.NoIndexes() {
			for _, key := range []int64{math.MinInt64, -5, 0, 1000, math.MaxInt64} {
				f.callAndRelease(i, root, key)
				f.callAndRelease(root, i, key)
				f.callAndRelease(i, i, key)
				f.callAndRelease(i, 0, key)
				f.callAndRelease(0, i, key)
			}
		}
	}
}

// besides plants a tree with lesser keys than n entries have, and one with greater keys.
func besides(f *treetest.Fixture, n int) (uint32, uint32) {
	before, after := treetest.Spaced(n), treetest.Spaced(n)
	for i := range n {
		before[i].Key -= 1 << 40
		after[i].Key += 1 << 40
	}
	return f.Plant(treetest.Full(n), before), f.Plant(treetest.Full(n), after)
}

// TestChains has trees that are as high as they have nodes.
func TestChains(t *testing.T) {
	treetest.Chains(t, func(in *treetest.Fixture, root uint32, nodes int) {
		f, n := fixture{in}, int64(nodes)
		least, small := besides(in, 2)
		for _, key := range []int64{1, 7, -9, n, 1 << 38, -1 << 38} {
			f.callAndRelease(root, small, key)
			f.callAndRelease(least, root, key)
		}
		f.callAndRelease(root, root, 3)
		// A tree would need no more slots than this. A chain needs more, so that calls fail on any level.
		for free := 450; free > 250; free -= 1 + nodes/600 {
			f.Leave(free)
			f.callAndRelease(root, small, n/2)
			f.callAndRelease(root, small, -n/2)
			f.callAndRelease(least, root, 0)
		}
	})
}

func TestDoubledTrees(t *testing.T) {
	treetest.Doubled(t, func(in *treetest.Fixture, root uint32) {
		f := fixture{in}
		least, small := besides(in, 2)
		for _, key := range []int64{-50, -15, 0, 15, 50} {
			f.callAndRelease(root, small, key)
			f.callAndRelease(least, root, key)
			f.callAndRelease(root, root, key)
		}
		f.Release(least, small)
	})
}

// callAndCount is for arenas in which children are missing or nodes are in circles.
func callAndCount(t *testing.T, a *arena.Arena, left, right uint32, key int64) {
	t.Helper()
	treetest.SameCounts(t, a, func() []uint32 { return callAll(t, a, left, right, key, false) })
}

// TestCircles holds that the functions return for circles, too, with trees that are lighter and heavier.
func TestCircles(t *testing.T) {
	treetest.Circles(t, func(f *treetest.Fixture, root uint32) {
		for _, n := range []int{0, 1, 5, 40, 500} {
			left, right := besides(f, n)
			for _, key := range []int64{-5000, 1, 2, 3, 4, 5, 5000} {
				callAndCount(t, f.Arena, root, right, key)
				callAndCount(t, f.Arena, left, root, key)
				callAndCount(t, f.Arena, root, root, key)
			}
			f.Release(left, right)
		}
	})
}

// TestMissingChild has a child that is not allocated, below a root that Split finds.
func TestMissingChild(t *testing.T) {
	for _, left := range []bool{true, false} {
		a := newFixture(t, 100).Arena
		leaf, _ := a.Make(4, 0, 0, 0)
		l, r := leaf, uint32(0)
		if !left {
			l, r = 0, leaf
		}
		root, _ := a.Make(4, 0, l, r)
		a.Release(leaf)
		a.Release(leaf)
		for key := range int64(9) {
			callAndCount(t, a, root, 0, key)
			callAndCount(t, a, 0, root, key)
			callAndCount(t, a, root, root, key)
		}
	}
}

// TestReleasedTooOften has callers that release references that they do not hold. One of the arenas has enough slots for all calls.
func TestReleasedTooOften(t *testing.T) {
	for _, capacity := range []int{9, 150} {
		a := newFixture(t, capacity).Arena
		next := treetest.Generator(uint64(capacity))
		treetest.Tangle(a, 20000, next, func(pick func() uint32) {
			callAndCount(t, a, pick(), pick(), int64(next(11)-1))
		})
	}
}
