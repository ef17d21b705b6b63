package join

import (
	"math"
	"slices"
	"testing"

	"versionmap/api"
	"versionmap/reserve"
	"versionmap/shape"
	"versionmap/treetest"
)

// pair is an arena with the entries left, middle and right, and trees of the outer ones. Exactly so many slots are free as a join requires.
type pair struct {
	fixture
	left   uint32
	middle api.Entry
	right  uint32
	room   int
}

func newPair(t *testing.T, l, r *treetest.Tree) pair {
	t.Helper()
	n, m := l.Size(), r.Size()
	entries := treetest.Spaced(n + 1 + m)
	room := reserve.Join(n, m)
	f := newFixture(t, n+m+room)
	left := f.Plant(l, entries[:n])
	right := f.Plant(r, entries[n+1:])
	return pair{f, left, entries[n], right, room}
}

// both joins and concatenates the trees.
func (p pair) both() {
	p.T.Helper()
	p.Discard(p.join(p.left, p.middle, p.right))
	p.Discard(p.concat(p.left, p.right))
}

// errors has the wrong order, for which there are enough slots at first, and then one slot too few.
func (p pair) errors() {
	p.T.Helper()
	p.join(p.right, p.middle, p.left)
	p.concat(p.right, p.left)
	p.concat(p.left, p.left)
	p.Leave(p.room - 1)
	p.both()
	p.join(p.right, p.middle, p.left)
	p.concat(p.right, p.left)
}

func TestExample(t *testing.T) {
	f := newFixture(t, 100)
	entries := []api.Entry{{Key: 1, Value: 10}, {Key: 2, Value: 20}, {Key: 3, Value: 30}, {Key: 5, Value: 50}}
	root, err := f.join(f.Plant(treetest.Full(3), entries[:3]), entries[3], 0)
	if err != api.OK {
		t.Fatalf("P13.1: %d", err)
	}
	less, greater, err := f.split(root, 3)
	if err != api.OK || f.Arena.Size(less) != 2 || f.Arena.Size(greater) != 1 {
		t.Errorf("P13.3: %d, %d, %d", less, greater, err)
	}
}

// TestSmallTrees has all balanced trees of up to seven nodes with each other.
func TestSmallTrees(t *testing.T) {
	all := treetest.UpTo(7)
	for _, l := range all {
		for _, r := range all {
			p := newPair(t, l, r)
			p.both()
			p.errors()
		}
	}
}

// TestUnequalTrees has larger trees with smaller ones, so that each path is gone down to each depth.
func TestUnequalTrees(t *testing.T) {
	small := append(treetest.UpTo(3), treetest.Full(4), treetest.Full(5))
	for n := 8; n <= 10; n++ {
		for _, large := range treetest.All(n) {
			for _, s := range small {
				newPair(t, large, s).both()
				newPair(t, s, large).both()
			}
		}
	}
}

// TestManyTrees has trees of many heights and shapes, each with every ninth one.
func TestManyTrees(t *testing.T) {
	all := treetest.Many(500)
	const step = 9
	for number, l := range all {
		for other := number % step; other < len(all); other += step {
			p := newPair(t, l, all[other])
			p.both()
			if other%4 == 0 {
				p.errors()
			}
		}
	}
}

// TestHighTrees has trees of up to the greatest height that an arena has slots for.
func TestHighTrees(t *testing.T) {
	small := []*treetest.Tree{nil, treetest.Thinnest(9, []bool{true}), treetest.Thinnest(24, []bool{false})}
	for _, way := range treetest.Turns() {
		high := treetest.Thinnest(35, way)
		for _, s := range small {
			newPair(t, high, s).both()
			newPair(t, s, high).both()
		}
		highest := treetest.Thinnest(36, way)
		newPair(t, highest, nil).both()
		newPair(t, treetest.Full(1), highest).both()
	}
	newPair(t, treetest.Full(32000), treetest.Full(32000)).both()
	newPair(t, treetest.Full(8000), treetest.Full(32000)).both()
	newPair(t, treetest.Full(32000), treetest.Full(8000)).both()
}

// TestOrder has middle keys around all keys of the trees.
func TestOrder(t *testing.T) {
	entries := treetest.Spaced(9)
	for _, sizes := range [][2]int{{0, 0}, {0, 1}, {1, 0}, {1, 1}, {4, 0}, {0, 4}, {4, 1}, {1, 4}, {4, 4}} {
		n, m := sizes[0], sizes[1]
		f := newFixture(t, 100)
		left, right := f.Plant(treetest.Full(n), entries[:n]), f.Plant(treetest.Full(m), entries[n+1:n+1+m])
		for _, e := range entries {
			for d := int64(-1); d <= 1; d++ {
				f.Discard(f.join(left, api.Entry{Key: e.Key + d, Value: 4}, right))
			}
		}
	}
}

// TestOneWrongKey has trees whose ranges meet or overlap by one key alone.
func TestOneWrongKey(t *testing.T) {
	for first := int64(7); first <= 12; first++ {
		f := newFixture(t, 100)
		left := f.Plant(treetest.Full(3), []api.Entry{{Key: 1}, {Key: 2}, {Key: 9}})
		right := f.Plant(treetest.Full(3), []api.Entry{{Key: first}, {Key: 20}, {Key: 30}})
		if _, err := f.concat(left, right); (err == api.OK) != (first > 9) {
			t.Errorf("P13.2: 1 to 9 and %d to 30: %d", first, err)
		}
		for key := int64(8); key <= 12; key++ {
			_, err := f.join(left, api.Entry{Key: key}, right)
			if fits := key > 9 && key < first; (err == api.OK) != fits {
				t.Errorf("P13.1: %d between 1 to 9 and %d to 30: %d", key, first, err)
			}
		}
	}
}

// TestExtremeKeys has all trees whose keys are among some at the ends of the integers and around 0.
func TestExtremeKeys(t *testing.T) {
	for _, entries := range treetest.ExtremeLists() {
		for at := range len(entries) + 1 {
			f := newFixture(t, 200)
			left := f.Plant(treetest.Full(at), entries[:at])
			right := f.Plant(treetest.Full(len(entries)-at), entries[at:])
			f.concat(right, left)
			both, _ := f.concat(left, right)
			for _, key := range treetest.Extremes() {
				f.join(left, api.Entry{Key: key, Value: math.MinInt64}, right)
				f.split(both, key)
			}
		}
	}
}

// TestFreeSlots has all numbers of free slots around those that are required.
func TestFreeSlots(t *testing.T) {
	for _, c := range []struct {
		l, r     int
		required int
	}{{0, 0, 12}, {1, 0, 16}, {0, 1, 16}, {1, 1, 20}, {2, 2, 24}, {6, 3, 32}, {20, 5, 44}} {
		p := newPair(t, treetest.Full(c.l), treetest.Full(c.r))
		if p.room != c.required {
			t.Fatalf("P8.1: Join(%d, %d): %d", c.l, c.r, p.room)
		}
		for free := range c.required + 1 {
			p.Leave(free)
			got, err := p.join(p.left, p.middle, p.right)
			if (err == api.OK) != (free == c.required) {
				t.Errorf("P13.1: %d and %d keys, %d free: %d", c.l, c.r, free, err)
			}
			p.Discard(got, err)
			both, err := p.concat(p.left, p.right)
			if (err == api.OK) != (free == c.required || c.l == 0 || c.r == 0) {
				t.Errorf("P13.2: %d and %d keys, %d free: %d", c.l, c.r, free, err)
			}
			p.Discard(both, err)
		}
	}
}

// TestFullArena has an arena without a free slot, half of which each tree has.
func TestFullArena(t *testing.T) {
	f := newFixture(t, api.MaxSlots)
	entries := treetest.Spaced(api.MaxSlots + 1)
	const half = api.MaxSlots / 2
	left, right := f.Plant(treetest.Full(half), entries[:half]), f.Plant(treetest.Full(half), entries[half+1:])
	if _, err := f.join(left, entries[half], right); err != api.ErrFull {
		t.Errorf("P13.1: %d", err)
	}
	if _, err := f.join(left, entries[half+1], right); err != api.ErrOrder {
		t.Errorf("P13.1: %d", err)
	}
	if _, err := f.concat(left, right); err != api.ErrFull {
		t.Errorf("P13.2: %d", err)
	}
	if _, err := f.concat(right, left); err != api.ErrOrder {
		t.Errorf("P13.2: %d", err)
	}
	f.concat(left, 0)
	f.concat(0, right)
	f.concat(0, 0)
}

// TestResultStays holds that a result does not need the trees it was made of.
func TestResultStays(t *testing.T) {
	for _, sizes := range [][2]int{{30, 2}, {2, 30}, {9, 9}, {0, 14}} {
		p := newPair(t, treetest.Full(sizes[0]), treetest.Full(sizes[1]))
		got, _ := p.join(p.left, p.middle, p.right)
		p.Release(p.left, p.right)
		p.Leave(0)
		n := sizes[0] + 1 + sizes[1]
		if list := treetest.Listing(p.Arena.Dump(), got); !slices.Equal(list, treetest.Spaced(n)) || shape.Check(p.Arena, got) != api.OK {
			t.Errorf("P13.5: %v", list)
		}
	}
}
