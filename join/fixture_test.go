package join

import (
	"slices"
	"testing"

	"versionmap/api"
	"versionmap/reserve"
	"versionmap/shape"
	"versionmap/treetest"
)

// fixture calls the functions in an arena and compares them with the chapter.
type fixture struct {
	*treetest.Fixture
}

func newFixture(t *testing.T, capacity int) fixture {
	t.Helper()
	return fixture{treetest.New(t, capacity)}
}

// join calls Join and compares the result, the error and the effects with the chapter. The fixture holds the reference to the result.
func (f fixture) join(left uint32, e api.Entry, right uint32) (uint32, api.Errno) {
	f.T.Helper()
	var got uint32
	var err api.Errno
	c := f.Watch("Join", func() { got, err = Join(f.Arena, left, e, right) })
	l, r := treetest.Listing(c.Before, left), treetest.Listing(c.Before, right)
	want := api.OK
	switch {
	case slices.ContainsFunc(l, func(x api.Entry) bool { return x.Key >= e.Key }),
		slices.ContainsFunc(r, func(x api.Entry) bool { return x.Key <= e.Key }):
		want = api.ErrOrder
	case len(c.Before.Free) < reserve.Join(len(l), len(r)):
		want = api.ErrFull
	}
	f.Limits("P13.5", c, 60, len(l)+len(r)+1)
	if err != want || err != api.OK && got != 0 {
		f.T.Fatalf("P13.1: Join(%v, %v, %v), %d free: %d, %d, want %d", l, e, r, len(c.Before.Free), got, err, want)
	}
	if err != api.OK {
		f.Failed(c)
		return 0, err
	}
	f.Returned("P13.1", c, got, slices.Concat(l, []api.Entry{e}, r))
	f.Effects("P13.5", c)
	if shape.Balanced(len(l), len(r)) {
		f.single(c, got, left, e, right)
	}
	return got, err
}

// single holds that the only new slot is the result, a node with this entry and these children.
func (f fixture) single(c treetest.Call, got, left uint32, e api.Entry, right uint32) {
	f.T.Helper()
	n := c.After.Slots[got-1].Node
	if n.Left != left || n.Right != right || n.Key != e.Key || n.Value != e.Value {
		f.T.Fatalf("P13.4: Join(%d, %v, %d): %v", left, e, right, n)
	}
	if c.Before.Slots[got-1].Allocated || len(c.Before.Free)-len(c.After.Free) != 1 {
		f.T.Fatalf("P13.4: Join: slot %d, of %d free slots %d are left", got, len(c.Before.Free), len(c.After.Free))
	}
}

// concat calls Concat and compares it with the chapter, as join does.
func (f fixture) concat(left, right uint32) (uint32, api.Errno) {
	f.T.Helper()
	var got uint32
	var err api.Errno
	c := f.Watch("Concat", func() { got, err = Concat(f.Arena, left, right) })
	l, r := treetest.Listing(c.Before, left), treetest.Listing(c.Before, right)
	f.Limits("P13.5", c, 60, len(l)+len(r)+1)
	want := api.OK
	switch {
	case len(l) == 0 || len(r) == 0:
		f.Itself("P13.2", c, got, max(left, right))
	case slices.MaxFunc(l, byKey).Key >= slices.MinFunc(r, byKey).Key:
		want = api.ErrOrder
	case len(c.Before.Free) < reserve.Join(len(l), len(r)):
		want = api.ErrFull
	}
	if err != want || err != api.OK && got != 0 {
		f.T.Fatalf("P13.2: Concat(%v, %v), %d free: %d, %d, want %d", l, r, len(c.Before.Free), got, err, want)
	}
	if err != api.OK {
		f.Failed(c)
		return 0, err
	}
	f.Returned("P13.2", c, got, slices.Concat(l, r))
	f.Effects("P13.5", c)
	return got, err
}

func byKey(x, y api.Entry) int {
	if x.Key < y.Key {
		return -1
	}
	return 1
}

// split calls Split and compares it with the chapter, as join does. The fixture holds the references to both trees.
func (f fixture) split(root uint32, key int64) (uint32, uint32, api.Errno) {
	f.T.Helper()
	var less, greater uint32
	var value int64
	var found bool
	var err api.Errno
	c := f.Watch("Split", func() { less, value, found, greater, err = Split(f.Arena, root, key) })
	var before, after []api.Entry
	var wantValue int64
	wantFound := false
	list := treetest.Listing(c.Before, root)
	for _, e := range list {
		switch {
		case e.Key < key:
			before = append(before, e)
		case e.Key > key:
			after = append(after, e)
		default:
			wantValue, wantFound = e.Value, true
		}
	}
	f.Limits("P13.5", c, 120, len(list))
	if !wantFound && len(before) == 0 {
		f.Itself("P13.3", c, greater, root)
	} else if !wantFound && len(after) == 0 {
		f.Itself("P13.3", c, less, root)
	} else if len(c.Before.Free) < reserve.Split(len(list)) {
		if err != api.ErrFull || less != 0 || value != 0 || found || greater != 0 {
			f.T.Fatalf("P13.3: Split(%v, %d), %d free: %d, %d, %t, %d, %d", list, key, len(c.Before.Free), less, value, found, greater, err)
		}
		f.Failed(c)
		return 0, 0, err
	}
	if err != api.OK || value != wantValue || found != wantFound {
		f.T.Fatalf("P13.3: Split(%v, %d), %d free: %d, %t, %d, want %d, %t", list, key, len(c.Before.Free), value, found, err, wantValue, wantFound)
	}
	f.Returned("P13.3", c, less, before)
	f.Returned("P13.3", c, greater, after)
	f.Effects("P13.5", c)
	return less, greater, err
}
