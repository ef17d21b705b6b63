package join

import (
	"slices"
	"testing"

	"versionmap/api"
	"versionmap/arena"
	"versionmap/audit"
	"versionmap/reserve"
	"versionmap/shape"
)

// fixture is an arena with all references that callers hold, each as often as it is held.
type fixture struct {
	t     *testing.T
	arena *arena.Arena
	held  []uint32
}

func newFixture(t *testing.T, capacity int) *fixture {
	t.Helper()
	a, err := arena.New(capacity)
	if err != api.OK {
		t.Fatalf("P5.1: New(%d): %d", capacity, err)
	}
	return &fixture{t, a, nil}
}

// make makes a node and keeps the reference to it.
func (f *fixture) make(left uint32, e api.Entry, right uint32) uint32 {
	f.t.Helper()
	i, err := f.arena.Make(e.Key, e.Value, left, right)
	if err != api.OK {
		f.t.Fatalf("P5.2: Make(%v, %d, %d): %d", e, left, right, err)
	}
	f.held = append(f.held, i)
	return i
}

// release gives references back.
func (f *fixture) release(indexes ...uint32) {
	f.t.Helper()
	for _, i := range indexes {
		at := slices.Index(f.held, i)
		if at < 0 {
			f.t.Fatalf("no reference to %d is held", i)
		}
		f.held = slices.Delete(f.held, at, at+1)
		f.arena.Release(i)
	}
}

// plant makes the tree with the entries in the order of an in-order traversal, and keeps one reference, to its root.
func (f *fixture) plant(s *tree, entries []api.Entry) uint32 {
	f.t.Helper()
	root := s.plant(f.arena, entries)
	if f.arena.Size(root) != s.size() {
		f.t.Fatalf("P5.2: %d nodes, want %d", f.arena.Size(root), s.size())
	}
	f.held = append(f.held, root)
	return root
}

// leave makes leaves, or releases those it made before, until so many slots are free.
func (f *fixture) leave(free int) {
	f.t.Helper()
	filler := api.Entry{Key: 12345, Value: 54321}
	for at := len(f.held) - 1; f.arena.Free() < free && at >= 0; at-- {
		if n, _ := f.arena.Node(f.held[at]); n.Key == filler.Key && n.Value == filler.Value {
			f.release(f.held[at])
		}
	}
	for f.arena.Free() > free {
		f.make(0, filler, 0)
	}
	if f.arena.Free() != free {
		f.t.Fatalf("%d slots are free, not %d", f.arena.Free(), free)
	}
}

// listing returns the entries in the order of an in-order traversal.
func listing(d api.Dump, i uint32) []api.Entry {
	return appendListing(nil, d, i)
}

func appendListing(list []api.Entry, d api.Dump, i uint32) []api.Entry {
	if i == 0 {
		return list
	}
	n := d.Slots[i-1].Node
	list = append(appendListing(list, d, n.Left), api.Entry{Key: n.Key, Value: n.Value})
	return appendListing(list, d, n.Right)
}

// call is a call of a function with the state of the arena around it.
type call struct {
	name          string
	before, after api.Dump
	reads         uint64
}

// watch runs a call.
func (f *fixture) watch(name string, run func()) call {
	before, reads := f.arena.Dump(), f.arena.Reads()
	run()
	return call{name, before, f.arena.Dump(), f.arena.Reads() - reads}
}

// failed holds that a call had no effect.
func (f *fixture) failed(c call) {
	f.t.Helper()
	if !slices.Equal(c.before.Slots, c.after.Slots) || !slices.Equal(c.before.Free, c.after.Free) {
		f.t.Fatalf("rule 5: %s failed and changed the arena: %v, %v", c.name, c.before, c.after)
	}
}

// returned keeps a result, and holds that it is a tree with these entries.
func (f *fixture) returned(promise string, c call, i uint32, want []api.Entry) {
	f.t.Helper()
	f.held = append(f.held, i)
	if err := shape.Check(f.arena, i); err != api.OK {
		f.t.Fatalf("%s: %s: the result is no tree: %d", promise, c.name, err)
	}
	if got := listing(c.after, i); !slices.Equal(got, want) {
		f.t.Fatalf("%s: %s: %v, want %v", promise, c.name, got, want)
	}
}

// effects holds that the old slots are as they were, that nothing but the results was added, and that all references are counted.
func (f *fixture) effects(c call) {
	f.t.Helper()
	for n, s := range c.before.Slots {
		now := c.after.Slots[n]
		if s.Allocated && (!now.Allocated || now.Node != s.Node || now.Generation != s.Generation) {
			f.t.Fatalf("P13.5: %s changed slot %d: %v, %v", c.name, n+1, s, now)
		}
	}
	if found := audit.Check(c.after, f.held); len(found) > 0 {
		f.t.Fatalf("P13.5: %s: lost slots or wrong references: %v", c.name, found)
	}
}

// limits holds that a call read at most perLevel times for each level of a tree of so many keys, and two more.
func (f *fixture) limits(c call, perLevel, keys int) {
	f.t.Helper()
	if most := perLevel * (shape.MaxHeight(keys) + 2); c.reads > uint64(most) {
		f.t.Fatalf("P13.5: %s: %d reads, at most %d", c.name, c.reads, most)
	}
}

// join calls Join and compares the result, the error and the effects with the chapter. The fixture holds the reference to the result.
func (f *fixture) join(left uint32, e api.Entry, right uint32) (uint32, api.Errno) {
	f.t.Helper()
	var got uint32
	var err api.Errno
	c := f.watch("Join", func() { got, err = Join(f.arena, left, e, right) })
	l, r := listing(c.before, left), listing(c.before, right)
	want := api.OK
	switch {
	case slices.ContainsFunc(l, func(x api.Entry) bool { return x.Key >= e.Key }),
		slices.ContainsFunc(r, func(x api.Entry) bool { return x.Key <= e.Key }):
		want = api.ErrOrder
	case len(c.before.Free) < reserve.Join(len(l), len(r)):
		want = api.ErrFull
	}
	f.limits(c, 60, len(l)+len(r)+1)
	if err != want || err != api.OK && got != 0 {
		f.t.Fatalf("P13.1: Join(%v, %v, %v), %d free: %d, %d, want %d", l, e, r, len(c.before.Free), got, err, want)
	}
	if err != api.OK {
		f.failed(c)
		return 0, err
	}
	f.returned("P13.1", c, got, slices.Concat(l, []api.Entry{e}, r))
	f.effects(c)
	if shape.Balanced(len(l), len(r)) {
		f.single(c, got, left, e, right)
	}
	return got, err
}

// single holds that the only new slot is the result, a node with this entry and these children.
func (f *fixture) single(c call, got, left uint32, e api.Entry, right uint32) {
	f.t.Helper()
	n := c.after.Slots[got-1].Node
	if n.Left != left || n.Right != right || n.Key != e.Key || n.Value != e.Value {
		f.t.Fatalf("P13.4: Join(%d, %v, %d): %v", left, e, right, n)
	}
	if c.before.Slots[got-1].Allocated || len(c.before.Free)-len(c.after.Free) != 1 {
		f.t.Fatalf("P13.4: Join: slot %d, of %d free slots %d are left", got, len(c.before.Free), len(c.after.Free))
	}
}

// concat calls Concat and compares it with the chapter, as join does.
func (f *fixture) concat(left, right uint32) (uint32, api.Errno) {
	f.t.Helper()
	var got uint32
	var err api.Errno
	c := f.watch("Concat", func() { got, err = Concat(f.arena, left, right) })
	l, r := listing(c.before, left), listing(c.before, right)
	f.limits(c, 60, len(l)+len(r)+1)
	want := api.OK
	switch {
	case len(l) == 0 || len(r) == 0:
		f.itself("P13.2", c, got, max(left, right))
	case slices.MaxFunc(l, byKey).Key >= slices.MinFunc(r, byKey).Key:
		want = api.ErrOrder
	case len(c.before.Free) < reserve.Join(len(l), len(r)):
		want = api.ErrFull
	}
	if err != want || err != api.OK && got != 0 {
		f.t.Fatalf("P13.2: Concat(%v, %v), %d free: %d, %d, want %d", l, r, len(c.before.Free), got, err, want)
	}
	if err != api.OK {
		f.failed(c)
		return 0, err
	}
	f.returned("P13.2", c, got, slices.Concat(l, r))
	f.effects(c)
	return got, err
}

func byKey(x, y api.Entry) int {
	if x.Key < y.Key {
		return -1
	}
	return 1
}

// itself holds that a result is this index, and that no slot became allocated for it.
func (f *fixture) itself(promise string, c call, got, want uint32) {
	f.t.Helper()
	if got != want || !slices.Equal(c.before.Free, c.after.Free) {
		f.t.Fatalf("%s: %s returns %d, want %d itself", promise, c.name, got, want)
	}
}

// split calls Split and compares it with the chapter, as join does. The fixture holds the references to both trees.
func (f *fixture) split(root uint32, key int64) (uint32, uint32, api.Errno) {
	f.t.Helper()
	var less, greater uint32
	var value int64
	var found bool
	var err api.Errno
	c := f.watch("Split", func() { less, value, found, greater, err = Split(f.arena, root, key) })
	var before, after []api.Entry
	var wantValue int64
	wantFound := false
	list := listing(c.before, root)
	for _, e := range list {
		switch {
		case e.Key < key:
			before = append(before, e)
		case e.Key > key:
			after = append(after, e)
		default:
			wantValue, wantFound = e.Value, true
		}
	}
	f.limits(c, 120, len(list))
	if !wantFound && len(before) == 0 {
		f.itself("P13.3", c, greater, root)
	} else if !wantFound && len(after) == 0 {
		f.itself("P13.3", c, less, root)
	} else if len(c.before.Free) < reserve.Split(len(list)) {
		if err != api.ErrFull || less != 0 || value != 0 || found || greater != 0 {
			f.t.Fatalf("P13.3: Split(%v, %d), %d free: %d, %d, %t, %d, %d", list, key, len(c.before.Free), less, value, found, greater, err)
		}
		f.failed(c)
		return 0, 0, err
	}
	if err != api.OK || value != wantValue || found != wantFound {
		f.t.Fatalf("P13.3: Split(%v, %d), %d free: %d, %t, %d, want %d, %t", list, key, len(c.before.Free), value, found, err, wantValue, wantFound)
	}
	f.returned("P13.3", c, less, before)
	f.returned("P13.3", c, greater, after)
	f.effects(c)
	return less, greater, err
}
