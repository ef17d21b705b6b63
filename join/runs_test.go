package join

import (
	"math"
	"slices"
	"testing"

	"versionmap/api"
	"versionmap/arena"
	"versionmap/audit"
)

// run makes calls with trees that are results of earlier ones, so that they share nodes, slots are used again, and too few are often free. It returns how often each function succeeded.
func (f *fixture) run(calls int, next func(int) int) map[string]int {
	f.t.Helper()
	done := map[string]int{}
	tree := func() uint32 {
		if len(f.held) == 0 || next(12) == 0 {
			return 0
		}
		return f.held[next(len(f.held))]
	}
	count := func(name string, err api.Errno) {
		if err == api.OK {
			done[name]++
		}
	}
	for range calls {
		e := api.Entry{Key: int64(next(300)), Value: int64(next(1000) - 500)}
		switch kind := next(10); {
		case kind < 3:
			_, err := f.join(tree(), e, tree())
			count("Join", err)
		case kind < 5:
			_, err := f.concat(tree(), tree())
			count("Concat", err)
		case kind < 8:
			_, _, err := f.split(tree(), e.Key)
			count("Split", err)
		case len(f.held) > 0:
			f.release(f.held[next(len(f.held))])
		}
		if len(f.held) > 12 {
			f.release(f.held[:4]...)
		}
	}
	return done
}

// TestLongRuns has arenas in which slots are scarce or not.
func TestLongRuns(t *testing.T) {
	for _, capacity := range []int{100, 180, 400, 1500} {
		f := newFixture(t, capacity)
		done := f.run(4000, generator(uint64(capacity)))
		for _, name := range []string{"Join", "Concat", "Split"} {
			if done[name] < 100 {
				t.Errorf("%s succeeded only %d times with %d slots", name, done[name], capacity)
			}
		}
		f.release(slices.Clone(f.held)...)
		if f.arena.Free() != capacity {
			t.Errorf("P13.5: %d of %d slots are free", f.arena.Free(), capacity)
		}
	}
}

// TestSameCalls holds that the same calls on equal arenas have the same results, whatever happens in another arena.
func TestSameCalls(t *testing.T) {
	other := newFixture(t, 300)
	run := func(also bool) *fixture {
		f := newFixture(t, 300)
		next, elsewhere := generator(4), generator(5)
		for range 30 {
			f.run(10, next)
			if also {
				other.run(7, elsewhere)
			}
		}
		return f
	}
	x, y := run(false), run(true)
	d, e := x.arena.Dump(), y.arena.Dump()
	if !slices.Equal(d.Slots, e.Slots) || !slices.Equal(d.Free, e.Free) || !slices.Equal(x.held, y.held) {
		t.Errorf("rule 9: two runs differ: %v, %v", d, e)
	}
}

// callAll calls the functions with indexes that need not be trees. Of these, the document says only that the functions return. It returns the results, and holds that they are indexes, and zero with an error.
func callAll(t *testing.T, a *arena.Arena, left, right uint32, key int64) []uint32 {
	t.Helper()
	joined, err := Join(a, left, api.Entry{Key: key, Value: 1}, right)
	checkFailure(t, "Join", err, joined == 0)
	both, err := Concat(a, left, right)
	checkFailure(t, "Concat", err, both == 0)
	less, value, found, greater, err := Split(a, left, key)
	checkFailure(t, "Split", err, less == 0 && value == 0 && !found && greater == 0)
	results := []uint32{joined, both, less, greater}
	for _, i := range results {
		if i != 0 && a.Count(i) == 0 {
			t.Fatalf("P5.2: %d, %d, %d: the results %d are not all indexes", left, right, key, results)
		}
	}
	return results
}

// checkFailure holds that nothing but the error is returned with an error.
func checkFailure(t *testing.T, name string, err api.Errno, zero bool) {
	t.Helper()
	if err != api.OK && !zero {
		t.Fatalf("rule 4: %s has a result with the error %d", name, err)
	}
}

// callAndRelease also holds that nothing is lost in an arena in which callers release only what they hold.
func (f *fixture) callAndRelease(left, right uint32, key int64) {
	f.t.Helper()
	results := callAll(f.t, f.arena, left, right, key)
	if found := audit.Check(f.arena.Dump(), append(results, f.held...)); len(found) > 0 {
		f.t.Fatalf("P50.2: %d, %d, %d: %v", left, right, key, found)
	}
	for _, i := range results {
		f.arena.Release(i)
	}
}

func TestInvalidIndexes(t *testing.T) {
	invalid := []uint32{61, 200, 201, api.MaxSlots, api.MaxSlots + 1, 1<<17 + 1, 1 << 31, 1<<31 + 1, math.MaxUint32}
	for _, n := range []int{0, 1, 7, 60} {
		f := newFixture(t, 200)
		root := f.plant(full(n), spaced(n))
		for _, i := range invalid {
			for _, key := range []int64{math.MinInt64, -5, 0, 1000, math.MaxInt64} {
				f.callAndRelease(i, root, key)
				f.callAndRelease(root, i, key)
				f.callAndRelease(i, i, key)
				f.callAndRelease(i, 0, key)
				f.callAndRelease(0, i, key)
			}
		}
	}
}

// chain makes a path of nodes that turns as left says, from below, and keeps a reference to its upper end. Its keys are those of a search tree, although it is not balanced.
func (f *fixture) chain(nodes int, left func(int) bool) uint32 {
	root := uint32(0)
	for k := range nodes {
		key := int64(2 * k)
		l, r := root, uint32(0)
		if !left(k) {
			key, l, r = -key, 0, root
		}
		root, _ = f.arena.Make(key, 1, l, r)
		f.arena.Release(l)
		f.arena.Release(r)
	}
	f.held = append(f.held, root)
	return root
}

// TestChains has trees that are as high as they have nodes.
func TestChains(t *testing.T) {
	for _, nodes := range []int{20, 500, 30000} {
		for _, left := range []func(int) bool{
			func(int) bool { return true },
			func(int) bool { return false },
			func(k int) bool { return k%2 == 0 },
		} {
			f := newFixture(t, 2*nodes+2000)
			root := f.chain(nodes, left)
			small := f.plant(full(1), []api.Entry{{Key: 1 << 40}})
			least := f.plant(full(2), []api.Entry{{Key: -1 << 40}, {Key: -1 << 39}})
			for _, key := range []int64{1, 7, -9, int64(nodes), 1 << 38, -1 << 38} {
				f.callAndRelease(root, small, key)
				f.callAndRelease(least, root, key)
			}
			f.callAndRelease(root, root, 3)
			// A tree would need no more slots than this. A chain needs more, so that calls fail on any level.
			for free := 450; free > 250; free -= 1 + nodes/600 {
				f.leave(free)
				f.callAndRelease(root, small, int64(nodes/2))
				f.callAndRelease(root, small, int64(-nodes/2))
			}
		}
	}
}

// TestSharedSubtrees has nodes that are both children of the next one, up to 2^31 - 1 entries, with keys in all orders.
func TestSharedSubtrees(t *testing.T) {
	for _, step := range []int64{-1, 0, 1} {
		f := newFixture(t, 700)
		small := f.plant(full(2), []api.Entry{{Key: 100}, {Key: 200}})
		least := f.plant(full(2), []api.Entry{{Key: -200}, {Key: -100}})
		root := uint32(0)
		for k := range int64(31) {
			root = f.make(root, api.Entry{Key: step * k, Value: math.MaxInt64}, root)
			for _, key := range []int64{-50, -15, 0, 15, 50} {
				f.callAndRelease(root, small, key)
				f.callAndRelease(least, root, key)
				f.callAndRelease(root, root, key)
			}
		}
		f.leave(3)
		for _, key := range []int64{-50, 0, 50} {
			f.callAndRelease(root, small, key)
			f.callAndRelease(least, root, key)
		}
	}
}

// counts returns the reference counts of all slots.
func counts(a *arena.Arena) []int {
	var list []int
	for _, s := range a.Dump().Slots {
		list = append(list, s.Count)
	}
	return list
}

// callAndCount is for arenas in which children are missing or nodes are in circles. When the results are released, all counts must be as they were.
func callAndCount(t *testing.T, a *arena.Arena, left, right uint32, key int64) {
	t.Helper()
	before := counts(a)
	for _, i := range callAll(t, a, left, right, key) {
		a.Release(i)
	}
	if after := counts(a); !slices.Equal(before, after) {
		t.Fatalf("P50.2: %d, %d, %d: the counts %d have become %d", left, right, key, before, after)
	}
}

// circle makes two nodes that are below each other, on the sides that are given. A caller makes them that releases references that it does not hold. On their other sides they have the same tree. The upper node, which was made first, has a smaller Size and the key 4, and the lower one the key 2.
func (f *fixture) circle(upperLeft, lowerLeft bool) (upper, lower uint32) {
	f.t.Helper()
	side := f.plant(full(10), spaced(10))
	children := func(below uint32, left bool) (uint32, uint32) {
		if left {
			return below, side
		}
		return side, below
	}
	leaf, _ := f.arena.Make(2, 0, 0, 0)
	l, r := children(leaf, upperLeft)
	upper, _ = f.arena.Make(4, 0, l, r)
	f.arena.Release(leaf)
	f.arena.Release(leaf)
	l, r = children(upper, lowerLeft)
	lower, _ = f.arena.Make(2, 0, l, r)
	if lower != leaf {
		f.t.Fatalf("P3.2: slot %d, want %d", lower, leaf)
	}
	return upper, lower
}

// TestCircles holds that the functions return for circles, too, with trees that are lighter and heavier.
func TestCircles(t *testing.T) {
	for _, sides := range [][2]bool{{true, true}, {false, false}, {true, false}, {false, true}} {
		f := newFixture(t, 3000)
		upper, lower := f.circle(sides[0], sides[1])
		for _, n := range []int{0, 1, 5, 40, 500} {
			before, after := spaced(n), spaced(n)
			for i := range n {
				before[i].Key -= 10000
				after[i].Key += 10000
			}
			left, right := f.plant(full(n), before), f.plant(full(n), after)
			for _, root := range []uint32{upper, lower} {
				for _, key := range []int64{-5000, 1, 2, 3, 4, 5, 5000} {
					callAndCount(t, f.arena, root, right, key)
					callAndCount(t, f.arena, left, root, key)
					callAndCount(t, f.arena, root, root, key)
				}
			}
		}
	}
}

// TestMissingChild has a child that is not allocated, below a root that Split finds.
func TestMissingChild(t *testing.T) {
	for _, left := range []bool{true, false} {
		a := newFixture(t, 100).arena
		leaf, _ := a.Make(4, 0, 0, 0)
		l, r := leaf, uint32(0)
		if !left {
			l, r = 0, leaf
		}
		root, _ := a.Make(4, 0, l, r)
		a.Release(leaf)
		a.Release(leaf)
		for key := range int64(9) {
			callAndCount(t, a, root, 0, key)
			callAndCount(t, a, 0, root, key)
			callAndCount(t, a, root, root, key)
		}
	}
}

// TestReleasedTooOften has callers that release references that they do not hold. One of the arenas has enough slots for all calls.
func TestReleasedTooOften(t *testing.T) {
	for _, capacity := range []int{9, 150} {
		a := newFixture(t, capacity).arena
		next := generator(uint64(capacity))
		indexes := []uint32{0, uint32(capacity + 1)}
		pick := func() uint32 { return indexes[next(len(indexes))] }
		for range 20000 {
			if i, err := a.Make(int64(next(9)), 0, pick(), pick()); err == api.OK {
				indexes = append(indexes, i)
			}
			if len(indexes) > 9 {
				a.Release(indexes[2])
				indexes = slices.Delete(indexes, 2, 3)
			}
			a.Release(pick())
			callAndCount(t, a, pick(), pick(), int64(next(11)-1))
		}
	}
}
