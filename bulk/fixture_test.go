package bulk

import (
	"slices"
	"testing"

	"versionmap/api"
	"versionmap/arena"
	"versionmap/reserve"
	"versionmap/shape"
	"versionmap/treetest"
)

// fixture calls the functions in an arena and compares them with the chapter.
type fixture struct {
	*treetest.Fixture
}

func newFixture(t *testing.T, capacity int) fixture {
	t.Helper()
	return fixture{treetest.New(t, capacity)}
}

// plantWith plants a tree in an arena with so many free slots.
func plantWith(t *testing.T, s *treetest.Tree, entries []api.Entry, free int) (fixture, uint32) {
	t.Helper()
	f, root := treetest.PlantWith(t, s, entries, free)
	return fixture{f}, root
}

// build calls Build and compares the result, the error and the effects with the chapter. The fixture holds the reference to the result.
func (f fixture) build(entries []api.Entry) (uint32, api.Errno) {
	f.T.Helper()
	given := slices.Clone(entries)
	var got uint32
	var err api.Errno
	c := f.Watch("Build", func() { got, err = Build(f.Arena, entries) })
	want := api.OK
	if len(c.Before.Free) < len(entries) {
		want = api.ErrFull
	}
	for i, e := range entries {
		if i > 0 && entries[i-1].Key >= e.Key {
			want = api.ErrOrder
		}
	}
	if err != want || err != api.OK && got != 0 {
		f.T.Fatalf("P15.1: Build of %d entries, %d free: %d, %d, want %d", len(entries), len(c.Before.Free), got, err, want)
	}
	if !slices.Equal(entries, given) {
		f.T.Fatalf("rule 3: the entries %v have become %v", given, entries)
	}
	if err != api.OK {
		f.Failed(c)
		return 0, err
	}
	f.Returned("P15.1", c, got, entries)
	f.Effects("P50.2", c)
	if !hasForm(c.After, got, entries) {
		f.T.Fatalf("P15.1: Build of %d entries: the shape is another one: %v", len(entries), c.After)
	}
	return got, err
}

// hasForm reports whether a tree has each entry where the chapter says.
func hasForm(d api.Dump, i uint32, entries []api.Entry) bool {
	m := len(entries)
	if m == 0 || i == 0 {
		return m == 0 && i == 0
	}
	n := d.Slots[i-1].Node
	return api.Entry{Key: n.Key, Value: n.Value} == entries[m/2] &&
		hasForm(d, n.Left, entries[:m/2]) && hasForm(d, n.Right, entries[m/2+1:])
}

// within returns the entries with keys from lo to hi.
func within(list []api.Entry, lo, hi int64) []api.Entry {
	return slices.DeleteFunc(slices.Clone(list), func(e api.Entry) bool { return e.Key < lo || e.Key > hi })
}

// outside returns the other entries.
func outside(list []api.Entry, lo, hi int64) []api.Entry {
	return slices.DeleteFunc(slices.Clone(list), func(e api.Entry) bool { return e.Key >= lo && e.Key <= hi })
}

// keep calls Keep and compares it with the chapter. The fixture holds the reference to the result.
func (f fixture) keep(root uint32, lo, hi int64) (uint32, api.Errno) {
	f.T.Helper()
	return f.cut("Keep", Keep, within, root, lo, hi)
}

// drop calls Drop and compares it with the chapter, as keep does.
func (f fixture) drop(root uint32, lo, hi int64) (uint32, api.Errno) {
	f.T.Helper()
	return f.cut("Drop", Drop, outside, root, lo, hi)
}

func (f fixture) cut(name string, run func(*arena.Arena, uint32, int64, int64) (uint32, api.Errno), model func([]api.Entry, int64, int64) []api.Entry, root uint32, lo, hi int64) (uint32, api.Errno) {
	f.T.Helper()
	var got uint32
	var err api.Errno
	c := f.Watch(name, func() { got, err = run(f.Arena, root, lo, hi) })
	list := treetest.Listing(c.Before, root)
	entries := model(list, lo, hi)
	f.Limits("P15.4", c, 240, len(list))
	want := api.OK
	switch {
	case len(entries) == len(list):
		f.Itself("P15.3", c, got, root)
	case len(entries) == 0:
		f.Itself("P15.3", c, got, 0)
	case len(c.Before.Free) < reserve.Split(len(list)):
		want = api.ErrFull
	}
	if err != want || err != api.OK && got != 0 {
		f.T.Fatalf("P15.3: %s(%v, %d, %d), %d free: %d, %d, want %d", name, list, lo, hi, len(c.Before.Free), got, err, want)
	}
	if err != api.OK {
		f.Failed(c)
		return 0, err
	}
	f.Returned("P15.3", c, got, entries)
	f.Effects("P15.3", c)
	return got, err
}

// reader calls the functions that list the entries of a tree, which are all, and compares them with the chapter.
type reader struct {
	fixture
	root uint32
	all  []api.Entry
}

// listed holds that a call returned these entries and read only as often as the chapter allows.
func (r reader) listed(name string, arguments []int64, want []api.Entry, run func() []api.Entry) {
	r.T.Helper()
	before := r.Arena.Reads()
	got := run()
	reads := r.Arena.Reads() - before
	if !slices.Equal(got, want) {
		r.T.Fatalf("P15.2: %s%d of %v: %v, want %v", name, arguments, r.all, got, want)
	}
	if most := 12*(shape.MaxHeight(len(r.all))+2) + 4*len(want); reads > uint64(most) {
		r.T.Fatalf("P15.4: %s%d of %d entries: %d reads, at most %d", name, arguments, len(r.all), reads, most)
	}
}

// list calls List.
func (r reader) list() {
	r.T.Helper()
	if got := List(r.Arena, r.root); !slices.Equal(got, r.all) {
		r.T.Fatalf("P15.2: List: %v, want %v", got, r.all)
	}
}

// between calls Range.
func (r reader) between(lo, hi int64, limit int) {
	r.T.Helper()
	want := within(r.all, lo, hi)
	want = want[:min(len(want), max(limit, 0))]
	r.listed("Range", []int64{lo, hi, int64(limit)}, want, func() []api.Entry { return Range(r.Arena, r.root, lo, hi, limit) })
}

// slice calls Slice.
func (r reader) slice(from, to int) {
	r.T.Helper()
	var want []api.Entry
	if 0 <= from && from <= to && to <= len(r.all) {
		want = r.all[from:to]
	}
	r.listed("Slice", []int64{int64(from), int64(to)}, want, func() []api.Entry { return Slice(r.Arena, r.root, from, to) })
}

// readAll holds that calls change nothing in an arena with this tree and without a free slot.
func readAll(t *testing.T, s *treetest.Tree, entries []api.Entry, calls func(r reader)) {
	t.Helper()
	f, root := plantWith(t, s, entries, 0)
	f.Unchanged("P15.2", f.Watch("a listing", func() { calls(reader{f, root, entries}) }))
}
