package bulk

import (
	"math"
	"slices"
	"testing"

	"versionmap/api"
	"versionmap/treetest"
)

func TestExample(t *testing.T) {
	f := newFixture(t, 4)
	root, err := f.build([]api.Entry{{Key: 1, Value: 10}, {Key: 2, Value: 20}, {Key: 3, Value: 30}, {Key: 4, Value: 40}})
	three, _ := f.Arena.Node(root)
	two, _ := f.Arena.Node(three.Left)
	one, _ := f.Arena.Node(two.Left)
	four, _ := f.Arena.Node(three.Right)
	if err != api.OK || three.Key != 3 || two.Key != 2 || one.Key != 1 || four.Key != 4 {
		t.Errorf("P15.1: %v, %v, %v, %v, %d", three, two, one, four, err)
	}
}

// TestBuild has all numbers of entries up to some, and greater ones, with exactly as many free slots and with one too few.
func TestBuild(t *testing.T) {
	var counts []int
	for n := range 130 {
		counts = append(counts, n)
	}
	for _, n := range append(counts, 255, 256, 257, 1000, 4095, 5000) {
		f := newFixture(t, n+1)
		entries := treetest.Spaced(n)
		f.Leave(n)
		if root, err := f.build(entries); err != api.OK || f.Arena.Free() != 0 {
			t.Fatalf("P15.1: %d entries: %d, %d, %d free", n, root, err, f.Arena.Free())
		} else {
			f.Release(root)
		}
		if n > 0 {
			f.Leave(n - 1)
			if _, err := f.build(entries); err != api.ErrFull {
				t.Fatalf("P15.1: %d entries: %d", n, err)
			}
		}
	}
}

// TestBuildLists has all lists of up to four keys out of four, with each number of free slots around theirs.
func TestBuildLists(t *testing.T) {
	lists := [][]api.Entry{nil}
	for from := 0; len(lists[from]) < 4; from++ {
		for key := range int64(4) {
			lists = append(lists, append(slices.Clone(lists[from]), api.Entry{Key: key, Value: 7 - key}))
		}
	}
	for _, list := range lists {
		f := newFixture(t, 6)
		for free := range 6 {
			f.Leave(free)
			f.Discard(f.build(list))
		}
	}
	if len(lists) != 341 {
		t.Errorf("%d lists", len(lists))
	}
}

// TestBuildOrder has lists with one wrong key, in an arena with enough slots and in one without.
func TestBuildOrder(t *testing.T) {
	const n = 40
	f := newFixture(t, 2*n)
	for free := range 2 {
		f.Leave(free * n)
		for at := range n - 1 {
			equal, descending := treetest.Spaced(n), treetest.Spaced(n)
			equal[at+1].Key = equal[at].Key
			descending[at].Key, descending[at+1].Key = descending[at+1].Key, descending[at].Key
			for _, list := range [][]api.Entry{equal, descending} {
				if root, err := f.build(list); root != 0 || err != api.ErrOrder {
					t.Errorf("P15.1: a wrong key behind %d: %d, %d", at, root, err)
				}
			}
		}
	}
}

func TestBuildExtremes(t *testing.T) {
	for _, entries := range treetest.ExtremeLists() {
		f := newFixture(t, 7)
		f.Discard(f.build(entries))
		slices.Reverse(entries)
		f.Discard(f.build(entries))
	}
}

// TestBuildLimits has as many entries as an arena can have slots, and more.
func TestBuildLimits(t *testing.T) {
	f := newFixture(t, api.MaxSlots)
	for _, n := range []int{api.MaxSlots + 1, 2 * api.MaxSlots, 5 * api.MaxSlots} {
		entries := treetest.Spaced(n)
		if root, err := f.build(entries); root != 0 || err != api.ErrFull {
			t.Errorf("P15.1: %d entries: %d, %d", n, root, err)
		}
		entries[n-1].Key = entries[n-2].Key
		if root, err := f.build(entries); root != 0 || err != api.ErrOrder {
			t.Errorf("P15.1: %d entries with a wrong key: %d, %d", n, root, err)
		}
	}
	f.build(treetest.Spaced(api.MaxSlots))
	if root, err := f.build(nil); root != 0 || err != api.OK {
		t.Errorf("P15.1: no entries: %d, %d", root, err)
	}
	if _, err := f.build(treetest.Spaced(1)); err != api.ErrFull {
		t.Errorf("P15.1: an entry: %d", err)
	}
}

// TestListSmallTrees has all small balanced trees with all arguments around their keys and positions.
func TestListSmallTrees(t *testing.T) {
	for _, s := range treetest.UpTo(7) {
		n := s.Size()
		readAll(t, s, treetest.Spaced(n), func(r reader) {
			r.list()
			edge := int64(3*n/2 + 3)
			for lo := -edge; lo <= edge; lo++ {
				for hi := -edge; hi <= edge; hi++ {
					for limit := -1; limit <= n+1; limit++ {
						r.between(lo, hi, limit)
					}
				}
			}
			for from := -2; from <= n+2; from++ {
				for to := -2; to <= n+2; to++ {
					r.slice(from, to)
				}
			}
		})
	}
}

// readSome has some ranges and slices, with some limits.
func readSome(r reader, positions []int) {
	n := len(r.all)
	r.list()
	for _, at := range positions {
		for _, other := range positions {
			lo, hi := r.all[at].Key, r.all[other].Key
			for _, limit := range []int{math.MinInt, 0, 1, 2, 10, other - at, other - at + 1, n, math.MaxInt} {
				r.between(lo-1, hi+1, limit)
				r.between(lo, hi, limit)
				r.between(lo+1, hi-1, limit)
				r.between(lo, math.MaxInt64, limit)
				r.between(math.MinInt64, hi, limit)
			}
			r.slice(at, other)
			r.slice(at, other+1)
		}
		r.slice(0, at)
		r.slice(at, n)
	}
}

func TestListManyTrees(t *testing.T) {
	for _, s := range treetest.Many(500) {
		readAll(t, s, treetest.Spaced(s.Size()), func(r reader) {
			readSome(r, treetest.Some(s.Size(), 9))
		})
	}
}

// TestListHighTrees has the highest trees that fit into an arena, with the end of the longest path, and a tree that uses every slot.
func TestListHighTrees(t *testing.T) {
	for _, way := range treetest.Turns() {
		s := treetest.Thinnest(36, way)
		at := s.Deepest()
		readAll(t, s, treetest.Spaced(s.Size()), func(r reader) {
			readSome(r, []int{at, min(at+1, s.Size()-1)})
		})
	}
	s := treetest.Full(api.MaxSlots)
	readAll(t, s, treetest.Spaced(api.MaxSlots), func(r reader) {
		readSome(r, []int{0, api.MaxSlots / 3, api.MaxSlots - 1})
	})
}

func TestListExtremes(t *testing.T) {
	for _, entries := range treetest.ExtremeLists() {
		readAll(t, treetest.Full(len(entries)), entries, func(r reader) {
			r.list()
			for _, lo := range treetest.Extremes() {
				for _, hi := range treetest.Extremes() {
					for _, limit := range []int{math.MinInt, -1, 0, 1, 3, 7, 8, math.MaxInt} {
						r.between(lo, hi, limit)
					}
				}
			}
		})
	}
}

// TestSliceExtremes has positions whose difference is no int, among others.
func TestSliceExtremes(t *testing.T) {
	positions := []int{math.MinInt, math.MinInt + 1, -1, 0, 1, 4, 8, 9, 10, math.MaxInt - 1, math.MaxInt}
	for _, n := range []int{0, 1, 9} {
		readAll(t, treetest.Full(n), treetest.Spaced(n), func(r reader) {
			for _, from := range positions {
				for _, to := range positions {
					r.slice(from, to)
				}
			}
		})
	}
}

// TestListsAreNew holds that the results share no memory with each other.
func TestListsAreNew(t *testing.T) {
	entries := treetest.Spaced(9)
	f, root := plantWith(t, treetest.Full(9), entries, 0)
	lists := func() [][]api.Entry {
		return [][]api.Entry{List(f.Arena, root), Range(f.Arena, root, math.MinInt64, math.MaxInt64, 9), Slice(f.Arena, root, 0, 9)}
	}
	kept := lists()
	for _, list := range lists() {
		for i := range list {
			list[i] = api.Entry{}
		}
		_ = append(list[:3], api.Entry{})
	}
	for _, list := range append(kept, lists()...) {
		if !slices.Equal(list, entries) {
			t.Errorf("rule 3: %v, want %v", list, entries)
		}
	}
}

// TestBuildKeepsNoEntries holds that a tree does not change with the list that it was built from.
func TestBuildKeepsNoEntries(t *testing.T) {
	f := newFixture(t, 9)
	given := treetest.Spaced(9)
	root, _ := f.build(given)
	clear(given)
	if list := List(f.Arena, root); !slices.Equal(list, treetest.Spaced(9)) {
		t.Errorf("rule 3: %v", list)
	}
}
