package update

import (
	"slices"
	"testing"

	"versionmap/api"
	"versionmap/reserve"
	"versionmap/treetest"
)

// fixture calls the functions in an arena and compares them with the chapter.
type fixture struct {
	*treetest.Fixture
}

func newFixture(t *testing.T, capacity int) fixture {
	t.Helper()
	return fixture{treetest.New(t, capacity)}
}

// plantWith plants a tree in an arena with so many free slots.
func plantWith(t *testing.T, s *treetest.Tree, entries []api.Entry, free int) (fixture, uint32) {
	t.Helper()
	f, root := treetest.PlantWith(t, s, entries, free)
	return fixture{f}, root
}

// valueOf returns the value of a key in a list, or false if it is not there.
func valueOf(list []api.Entry, key int64) (int64, bool) {
	for _, e := range list {
		if e.Key == key {
			return e.Value, true
		}
	}
	return 0, false
}

// without returns the entries with other keys.
func without(list []api.Entry, key int64) []api.Entry {
	return slices.DeleteFunc(slices.Clone(list), func(e api.Entry) bool { return e.Key == key })
}

// with returns the list with the entry in its place.
func with(list []api.Entry, e api.Entry) []api.Entry {
	at := 0
	for at < len(list) && list[at].Key < e.Key {
		at++
	}
	return slices.Insert(without(list, e.Key), at, e)
}

// insert calls Insert and compares the results, the error and the effects with the chapter. The fixture holds the reference to the result.
func (f fixture) insert(root uint32, e api.Entry) (uint32, api.Errno) {
	f.T.Helper()
	var got uint32
	var value int64
	var found bool
	var err api.Errno
	c := f.Watch("Insert", func() { got, value, found, err = Insert(f.Arena, root, e) })
	list := treetest.Listing(c.Before, root)
	old, present := valueOf(list, e.Key)
	want := f.inserted("P14.1", c, root, e, got)
	if want != api.OK {
		old, present = 0, false
	}
	if value != old || found != present || err != want {
		f.T.Fatalf("P14.1: Insert(%v, %v), %d free: %d, %t, %d, want %d, %t, %d", list, e, len(c.Before.Free), value, found, err, old, present, want)
	}
	return got, err
}

// increase calls Increase and compares it with the chapter, as insert does.
func (f fixture) increase(root uint32, key, by int64) (uint32, api.Errno) {
	f.T.Helper()
	var got uint32
	var value int64
	var err api.Errno
	c := f.Watch("Increase", func() { got, value, err = Increase(f.Arena, root, key, by) })
	list := treetest.Listing(c.Before, root)
	old, _ := valueOf(list, key)
	sum := int64(uint64(old) + uint64(by))
	want := f.inserted("P14.3", c, root, api.Entry{Key: key, Value: sum}, got)
	if want != api.OK {
		sum = 0
	}
	if value != sum || err != want {
		f.T.Fatalf("P14.3: Increase(%v, %d, %d), %d free: %d, %d, want %d, %d", list, key, by, len(c.Before.Free), value, err, sum, want)
	}
	return got, err
}

// inserted compares the tree that an insertion returned and its effects with the chapter, and returns the error that it has to have.
func (f fixture) inserted(promise string, c treetest.Call, root uint32, e api.Entry, got uint32) api.Errno {
	f.T.Helper()
	list := treetest.Listing(c.Before, root)
	f.Limits("P14.4", c, 60, len(list)+1)
	if old, present := valueOf(list, e.Key); present && old == e.Value {
		f.Itself(promise, c, got, root)
	} else if len(c.Before.Free) < reserve.Insert(len(list)) {
		f.fails(c, got)
		return api.ErrFull
	}
	f.returns(promise, c, got, with(list, e), reserve.Insert(len(list)))
	return api.OK
}

// delete calls Delete and compares it with the chapter, as insert does.
func (f fixture) delete(root uint32, key int64) (uint32, api.Errno) {
	f.T.Helper()
	var got uint32
	var value int64
	var err api.Errno
	c := f.Watch("Delete", func() { got, value, err = Delete(f.Arena, root, key) })
	list := treetest.Listing(c.Before, root)
	old, present := valueOf(list, key)
	want := api.OK
	switch {
	case !present:
		want = api.ErrNotFound
	case len(c.Before.Free) < reserve.Delete(len(list)):
		want, old = api.ErrFull, 0
	}
	f.Limits("P14.4", c, 60, len(list)+1)
	if value != old || err != want {
		f.T.Fatalf("P14.2: Delete(%v, %d), %d free: %d, %d, want %d, %d", list, key, len(c.Before.Free), value, err, old, want)
	}
	if err != api.OK {
		f.fails(c, got)
		return 0, err
	}
	f.returns("P14.2", c, got, without(list, key), reserve.Delete(len(list)))
	return got, err
}

// fails holds that a call with an error had neither a result nor an effect.
func (f fixture) fails(c treetest.Call, got uint32) {
	f.T.Helper()
	if got != 0 {
		f.T.Fatalf("rule 4: %s failed and returned the index %d", c.Name, got)
	}
	f.Failed(c)
}

// returns holds that the result is a tree with these entries, and that it has at most so many new slots, and nothing else changed.
func (f fixture) returns(promise string, c treetest.Call, got uint32, want []api.Entry, most int) {
	f.T.Helper()
	f.Returned(promise, c, got, want)
	f.Effects("P14.4", c)
	if made := len(c.Before.Free) - len(c.After.Free); made > most {
		f.T.Fatalf("P14.4: %s: %d new slots, at most %d", c.Name, made, most)
	}
}
