package treetest

import (
	"fmt"
	"slices"
	"strings"
	"testing"

	"versionmap/api"
	"versionmap/arena"
	"versionmap/shape"
)

// check holds that planted trees are trees, with all entries.
func check(t *testing.T, s *Tree) {
	t.Helper()
	f := New(t, s.Size()+1)
	entries := Spaced(s.Size())
	var root uint32
	c := f.Watch("Plant", func() { root = s.Plant(t, f.Arena, entries) })
	f.Returned("P7.3", c, root, entries)
	f.Effects("P50.2", c)
	measured, _ := shape.Measure(f.Arena, root)
	if want := (api.Shape{Keys: s.Size(), Height: s.Height()}); measured != want {
		t.Fatalf("P7.4: %v, want %v", measured, want)
	}
}

func TestShapes(t *testing.T) {
	for n, count := range []int{1, 1, 2, 5, 4, 14, 28, 69, 96} {
		all := All(n)
		if len(all) != count {
			t.Errorf("%d balanced trees of %d nodes, want %d", len(all), n, count)
		}
		for _, s := range all {
			check(t, s)
		}
	}
	for _, s := range Many(500) {
		check(t, s)
		if s.Size() > 500 {
			t.Errorf("%d keys", s.Size())
		}
	}
}

func TestThinnest(t *testing.T) {
	for _, way := range Turns() {
		for height := 1; height < 20; height++ {
			s := Thinnest(height, way)
			if s.Size() != shape.MinKeys(height) || s.Height() != height {
				t.Fatalf("%d keys, height %d, want %d, %d", s.Size(), s.Height(), shape.MinKeys(height), height)
			}
			depth := 1
			for at := s.Deepest(); at != s.Left.Size(); depth++ {
				if at < s.Left.Size() {
					s = s.Left
				} else {
					at -= s.Left.Size() + 1
					s = s.Right
				}
			}
			if depth != height {
				t.Fatalf("the deepest node is on level %d of %d", depth, height)
			}
		}
	}
}

func TestSome(t *testing.T) {
	for _, c := range []struct {
		n, most int
		want    []int
	}{{0, 5, nil}, {1, 5, []int{0}}, {3, 5, []int{2, 0, 1}}, {10, 3, []int{9, 0, 4, 8}}} {
		if got := Some(c.n, c.most); !slices.Equal(got, c.want) {
			t.Errorf("Some(%d, %d): %d, want %d", c.n, c.most, got, c.want)
		}
	}
}

func TestExtremeLists(t *testing.T) {
	lists := ExtremeLists()
	for _, list := range lists {
		check(t, Full(len(list)))
		f, root := PlantWith(t, Full(len(list)), list, 3)
		if err := shape.Check(f.Arena, root); err != api.OK || f.Arena.Free() != 3 {
			t.Errorf("P7.3: %v: %d, %d free", list, err, f.Arena.Free())
		}
	}
	if len(lists) != 128 || len(lists[0]) != 0 || len(lists[127]) != 7 {
		t.Errorf("%v", lists)
	}
}

func TestLargest(t *testing.T) {
	if n := Largest(func(keys int) int { return keys / 3 }); n != 49152 {
		t.Errorf("%d and %d are more than %d, or too few", n, n/3, api.MaxSlots)
	}
}

// TestVisits holds that indexes that are no trees are visited, and that no call fails on the way.
func TestVisits(t *testing.T) {
	for _, i := range NoIndexes() {
		if NewArena(t, 200).Size(i) != 0 || i == 0 {
			t.Errorf("%d is an index", i)
		}
	}
	visits := 0
	visit := func(f *Fixture, root uint32) {
		visits++
		if f.Arena.Size(root) == 0 {
			t.Errorf("%d is no index", root)
		}
	}
	Chains(t, func(f *Fixture, root uint32, nodes int) {
		visit(f, root)
		if s, _ := shape.Measure(f.Arena, root); s.Keys != 0 || f.Arena.Size(root) != nodes || f.Arena.Free() <= nodes {
			t.Errorf("%d nodes, want %d, %d free", f.Arena.Size(root), nodes, f.Arena.Free())
		}
	})
	Doubled(t, visit)
	Circles(t, visit)
	if want := 9 + 3*32 + 8; visits != want {
		t.Errorf("%d visits, want %d", visits, want)
	}
}

// alarm is a T that keeps its first message and goes no further.
type alarm struct {
	message string
}

func (a *alarm) Helper() {}

func (a *alarm) Fatalf(format string, args ...any) {
	a.message = fmt.Sprintf(format, args...)
	panic(a)
}

// alarmed holds that a check fails with a message that names this promise.
func alarmed(t *testing.T, promise string, check func(f *Fixture)) {
	t.Helper()
	a := &alarm{}
	func() {
		defer func() { recover() }()
		f := &Fixture{a, NewArena(t, 20), nil}
		f.Plant(Full(3), Spaced(3))
		check(f)
	}()
	if !strings.HasPrefix(a.message, promise) {
		t.Errorf("the message is %q, want one about %s", a.message, promise)
	}
}

// leaf makes a leaf that nobody keeps.
func leaf(a *arena.Arena) uint32 {
	i, _ := a.Make(7, 7, 0, 0)
	return i
}

// TestAlarms holds that the checks find what they are for.
func TestAlarms(t *testing.T) {
	alarmed(t, "P5.1", func(f *Fixture) { New(f.T, 0) })
	alarmed(t, "P5.2", func(f *Fixture) { f.Make(20, api.Entry{}, 0) })
	alarmed(t, "P5.2", func(f *Fixture) { MakeNode(f.T, f.Arena, 0, api.Entry{}, 20) })
	alarmed(t, "no reference", func(f *Fixture) { f.Release(3, 3) })
	alarmed(t, "17 slots are free", func(f *Fixture) { f.Leave(18) })
	alarmed(t, "rule 5", func(f *Fixture) { f.Failed(f.Watch("", func() { leaf(f.Arena) })) })
	alarmed(t, "rule 5", func(f *Fixture) { f.Failed(f.Watch("", func() { f.Arena.Retain(3) })) })
	alarmed(t, "rule 5", func(f *Fixture) { f.Failed(f.Watch("", func() { f.Arena.Release(leaf(f.Arena)) })) })
	alarmed(t, "P1.1", func(f *Fixture) { f.Unchanged("P1.1", f.Watch("", func() { leaf(f.Arena) })) })
	alarmed(t, "P1.1", func(f *Fixture) { f.Returned("P1.1", f.Watch("", func() {}), 20, nil) })
	alarmed(t, "P1.1", func(f *Fixture) { f.Returned("P1.1", f.Watch("", func() {}), 3, Spaced(4)) })
	alarmed(t, "P1.1", func(f *Fixture) { f.Itself("P1.1", f.Watch("", func() {}), 2, 3) })
	alarmed(t, "P1.1", func(f *Fixture) { f.Itself("P1.1", f.Watch("", func() { leaf(f.Arena) }), 3, 3) })
	alarmed(t, "P1.1", func(f *Fixture) { f.Effects("P1.1", f.Watch("", func() { leaf(f.Arena) })) })
	alarmed(t, "P1.1", func(f *Fixture) { f.Effects("P1.1", f.Watch("", func() { f.Arena.Retain(2) })) })
	alarmed(t, "P1.1", func(f *Fixture) { f.Effects("P1.1", f.Watch("", func() { f.Arena.Release(3) })) })
	alarmed(t, "P1.1", func(f *Fixture) {
		f.Effects("P1.1", f.Watch("", func() {
			f.Arena.Release(3)
			f.Plant(Full(3), Spaced(3))
		}))
	})
	alarmed(t, "P1.1", func(f *Fixture) {
		f.Limits("P1.1", f.Watch("", func() {
			for range 5 {
				f.Arena.Node(1)
			}
		}), 2, 0)
	})
	alarmed(t, "rule 4", func(f *Fixture) { Failure(f.T, "", api.ErrFull, false) })
	alarmed(t, "P50.2", func(f *Fixture) { f.Dismiss([]uint32{2}) })
	alarmed(t, "P50.2", func(f *Fixture) { leaf(f.Arena); f.Dismiss(nil) })
	alarmed(t, "P50.2", func(f *Fixture) { SameCounts(f.T, f.Arena, func() []uint32 { return []uint32{1} }) })
	alarmed(t, "P5.2", func(f *Fixture) { SameCounts(f.T, f.Arena, func() []uint32 { return []uint32{20} }) })
}

// TestRunAlarms has a run that does nothing, one that loses a slot, and one that goes on after the runs before it.
func TestRunAlarms(t *testing.T) {
	idle := func(*Fixture, int, func(int) int) map[string]int { return nil }
	losing := func(f *Fixture, _ int, _ func(int) int) map[string]int {
		leaf(f.Arena)
		return nil
	}
	all := 0
	counting := func(f *Fixture, _ int, _ func(int) int) map[string]int {
		all++
		f.Make(0, api.Entry{Key: int64(all)}, 0)
		return nil
	}
	alarmed(t, "Idle succeeded only 0", func(f *Fixture) { LongRuns(f.T, 5, 9, idle, "Idle") })
	alarmed(t, "P50.2", func(f *Fixture) { LongRuns(f.T, 5, 9, losing) })
	alarmed(t, "rule 9", func(f *Fixture) { SameCalls(f.T, 60, counting) })
	LongRuns(t, 5, 9, idle)
	SameCalls(t, 60, losing)
}

// TestPassing holds that the checks pass where nothing is wrong.
func TestPassing(t *testing.T) {
	f := New(t, 60)
	root := f.Plant(Full(3), Spaced(3))
	f.Leave(50)
	f.Leave(56)
	c := f.Watch("", func() { f.Arena.Retain(root) })
	f.Itself("P1.1", c, root, root)
	f.Returned("P1.1", c, root, Spaced(3))
	f.Effects("P1.1", c)
	f.Failed(f.Watch("", func() { f.Arena.Node(root) }))
	f.Unchanged("P1.1", f.Watch("", func() { f.Arena.Size(root) }))
	f.Limits("P1.1", f.Watch("", func() { f.Arena.Node(root) }), 1, 0)
	f.Discard(f.Make(0, api.Entry{}, 0), api.OK)
	f.Discard(0, api.ErrFull)
	f.Release(f.Held...)
	upper, lower := f.Circle(true, false)
	if u, _ := f.Arena.Node(upper); u.Left != lower {
		t.Errorf("%d, %d: %v", upper, lower, u)
	}
	SameCounts(t, f.Arena, func() []uint32 { return []uint32{leaf(f.Arena), 0} })
	root = f.Chain(9, func(k int) bool { return k%3 == 0 })
	if f.Arena.Size(root) != 9 || shape.Check(f.Arena, root) != api.ErrBalance {
		t.Errorf("P7.3: %d nodes: %d", f.Arena.Size(root), shape.Check(f.Arena, root))
	}
	steps := 0
	Tangle(New(t, 9).Arena, 30, Generator(1), func(pick func() uint32) {
		pick()
		steps++
	})
	if steps != 30 {
		t.Errorf("%d steps", steps)
	}
}
