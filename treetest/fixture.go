package treetest

import (
	"slices"

	"versionmap/api"
	"versionmap/arena"
	"versionmap/audit"
	"versionmap/shape"
)

// T is what a fixture needs of a *testing.T.
type T interface {
	Helper()
	Fatalf(format string, args ...any)
}

// NewArena returns an empty arena.
func NewArena(t T, capacity int) *arena.Arena {
	t.Helper()
	a, err := arena.New(capacity)
	if err != api.OK {
		t.Fatalf("P5.1: New(%d): %d", capacity, err)
	}
	return a
}

// MakeNode makes a node and takes over the references to its children.
func MakeNode(t T, a *arena.Arena, left uint32, e api.Entry, right uint32) uint32 {
	i, err := a.Make(e.Key, e.Value, left, right)
	if err != api.OK {
		t.Fatalf("P5.2: Make(%v, %d, %d): %d", e, left, right, err)
	}
	a.Release(left)
	a.Release(right)
	return i
}

// Fixture is an arena with all references that callers hold, each as often as it is held.
type Fixture struct {
	T     T
	Arena *arena.Arena
	Held  []uint32
}

// New returns a fixture with an empty arena.
func New(t T, capacity int) *Fixture {
	t.Helper()
	return &Fixture{t, NewArena(t, capacity), nil}
}

// PlantWith returns a fixture with a tree and so many free slots.
func PlantWith(t T, s *Tree, entries []api.Entry, free int) (*Fixture, uint32) {
	t.Helper()
	f := New(t, max(1, s.Size()+free))
	return f, f.Plant(s, entries)
}

// Make makes a node and keeps the reference to it.
func (f *Fixture) Make(left uint32, e api.Entry, right uint32) uint32 {
	f.T.Helper()
	i, err := f.Arena.Make(e.Key, e.Value, left, right)
	if err != api.OK {
		f.T.Fatalf("P5.2: Make(%v, %d, %d): %d", e, left, right, err)
	}
	f.Held = append(f.Held, i)
	return i
}

// Plant makes a tree with the entries in the order of an in-order traversal, and keeps one reference, to its root.
func (f *Fixture) Plant(s *Tree, entries []api.Entry) uint32 {
	f.T.Helper()
	root := s.Plant(f.T, f.Arena, entries)
	if f.Arena.Size(root) != s.Size() {
		f.T.Fatalf("P5.2: %d nodes, want %d", f.Arena.Size(root), s.Size())
	}
	f.Held = append(f.Held, root)
	return root
}

// Release gives references back.
func (f *Fixture) Release(indexes ...uint32) {
	f.T.Helper()
	// The indexes may be a part of Held.
	for _, i := range slices.Clone(indexes) {
		at := slices.Index(f.Held, i)
		if at < 0 {
			f.T.Fatalf("no reference to %d is held", i)
		}
		f.Held = slices.Delete(f.Held, at, at+1)
		f.Arena.Release(i)
	}
}

// Discard gives the reference to a result back, if the call succeeded.
func (f *Fixture) Discard(result uint32, err api.Errno) {
	f.T.Helper()
	if err == api.OK {
		f.Release(result)
	}
}

// Leave makes leaves, or releases those it made before, until so many slots are free.
func (f *Fixture) Leave(free int) {
	f.T.Helper()
	filler := api.Entry{Key: 12345, Value: 54321}
	for at := len(f.Held) - 1; f.Arena.Free() < free && at >= 0; at-- {
		if n, _ := f.Arena.Node(f.Held[at]); n.Key == filler.Key && n.Value == filler.Value {
			f.Release(f.Held[at])
		}
	}
	for f.Arena.Free() > free {
		f.Make(0, filler, 0)
	}
	if f.Arena.Free() != free {
		f.T.Fatalf("%d slots are free, not %d", f.Arena.Free(), free)
	}
}

// Listing returns the entries of a tree in a dump in the order of an in-order traversal.
func Listing(d api.Dump, i uint32) []api.Entry {
	return appendListing(nil, d, i)
}

func appendListing(list []api.Entry, d api.Dump, i uint32) []api.Entry {
	if i == 0 {
		return list
	}
	n := d.Slots[i-1].Node
	list = append(appendListing(list, d, n.Left), api.Entry{Key: n.Key, Value: n.Value})
	return appendListing(list, d, n.Right)
}

// Call is a call of a function with the state of the arena around it.
type Call struct {
	Name          string
	Before, After api.Dump
	Reads         uint64
}

// Watch runs a call.
func (f *Fixture) Watch(name string, run func()) Call {
	before, reads := f.Arena.Dump(), f.Arena.Reads()
	run()
	return Call{name, before, f.Arena.Dump(), f.Arena.Reads() - reads}
}

// Failed holds that a call that returned an error had no effect.
func (f *Fixture) Failed(c Call) {
	f.T.Helper()
	f.Unchanged("rule 5", c)
}

// Unchanged holds that a call left the arena as it was.
func (f *Fixture) Unchanged(promise string, c Call) {
	f.T.Helper()
	if !slices.Equal(c.Before.Slots, c.After.Slots) || !slices.Equal(c.Before.Free, c.After.Free) {
		f.T.Fatalf("%s: %s changed the arena: %v, %v", promise, c.Name, c.Before, c.After)
	}
}

// Returned keeps a result, and holds that it is a tree with these entries.
func (f *Fixture) Returned(promise string, c Call, i uint32, want []api.Entry) {
	f.T.Helper()
	f.Held = append(f.Held, i)
	if err := shape.Check(f.Arena, i); err != api.OK {
		f.T.Fatalf("%s: %s: the result is no tree: %d", promise, c.Name, err)
	}
	if got := Listing(c.After, i); !slices.Equal(got, want) {
		f.T.Fatalf("%s: %s: %v, want %v", promise, c.Name, got, want)
	}
}

// Itself holds that a result is this index, and that no slot became allocated for it.
func (f *Fixture) Itself(promise string, c Call, got, want uint32) {
	f.T.Helper()
	if got != want || !slices.Equal(c.Before.Free, c.After.Free) {
		f.T.Fatalf("%s: %s returns %d, want %d itself", promise, c.Name, got, want)
	}
}

// Effects holds that the slots that were allocated before a call are as they were, that nothing but the results was added, and that all references are counted.
func (f *Fixture) Effects(promise string, c Call) {
	f.T.Helper()
	for n, s := range c.Before.Slots {
		now := c.After.Slots[n]
		if s.Allocated && (!now.Allocated || now.Node != s.Node || now.Generation != s.Generation) {
			f.T.Fatalf("%s: %s changed slot %d: %v, %v", promise, c.Name, n+1, s, now)
		}
	}
	if found := audit.Check(c.After, f.Held); len(found) > 0 {
		f.T.Fatalf("%s: %s: lost slots or wrong references: %v", promise, c.Name, found)
	}
}

// Limits holds that a call read at most perLevel times for each level of a tree of so many keys, and two more.
func (f *Fixture) Limits(promise string, c Call, perLevel, keys int) {
	f.T.Helper()
	if most := perLevel * (shape.MaxHeight(keys) + 2); c.Reads > uint64(most) {
		f.T.Fatalf("%s: %s: %d reads, at most %d", promise, c.Name, c.Reads, most)
	}
}

// Failure holds that nothing but the error is returned with an error.
func Failure(t T, name string, err api.Errno, zero bool) {
	t.Helper()
	if err != api.OK && !zero {
		t.Fatalf("rule 4: %s has a result with the error %d", name, err)
	}
}
