package balance

import (
	"math"
	"slices"
	"testing"

	"versionmap/api"
	"versionmap/audit"
	"versionmap/treetest"
)

// pair is an arena with two trees and an entry between them.
type pair struct {
	*treetest.Fixture
	left   uint32
	middle api.Entry
	right  uint32
}

func newPair(t *testing.T, l, r *treetest.Tree) pair {
	t.Helper()
	n, m := l.Size(), r.Size()
	entries := treetest.Spaced(n + 1 + m)
	f := treetest.New(t, n+m+4)
	left, right := f.Plant(l, entries[:n]), f.Plant(r, entries[n+1:])
	return pair{f, left, entries[n], right}
}

// make calls Make, and holds that the result is a tree with all entries, or that a call without a result changed no reference.
func (p pair) make() (uint32, treetest.Call, api.Errno) {
	p.T.Helper()
	var got uint32
	var err api.Errno
	c := p.Watch("Make", func() { got, err = Make(p.Arena, p.left, p.middle, p.right) })
	if err == api.OK {
		l, r := treetest.Listing(c.Before, p.left), treetest.Listing(c.Before, p.right)
		p.Returned("P13.1", c, got, slices.Concat(l, []api.Entry{p.middle}, r))
	} else if got != 0 {
		p.T.Fatalf("rule 4: the result %d with the error %d", got, err)
	}
	p.Effects("P13.5", c)
	return got, c, err
}

// checkBalanced holds that the tree gets a new root alone.
func (p pair) checkBalanced() {
	p.T.Helper()
	p.Leave(0)
	if _, _, err := p.make(); err != api.ErrFull {
		p.T.Fatalf("no slot is free: %d", err)
	}
	p.Leave(1)
	got, c, err := p.make()
	if err != api.OK || len(c.After.Free) != 0 {
		p.T.Fatalf("one slot is free: %d", err)
	}
	if n, _ := p.Arena.Node(got); n.Left != p.left || n.Right != p.right {
		p.T.Fatalf("the children %d and %d, want %d and %d", n.Left, n.Right, p.left, p.right)
	}
}

// checkRotated holds that four slots are enough to rotate, and that with fewer ones there is a result or none.
func (p pair) checkRotated() {
	p.T.Helper()
	for free := range 5 {
		p.Leave(free)
		got, _, err := p.make()
		switch {
		case err == api.OK && free > 2:
			p.Release(got)
		case err != api.ErrFull || free == 4:
			p.T.Fatalf("%d slots are free: %d, %d", free, got, err)
		}
	}
}

// TestPairs has all pairs of small balanced trees of which one weighs at most four times as much as the other one.
func TestPairs(t *testing.T) {
	all := treetest.UpTo(8)
	for _, l := range all {
		for _, r := range all {
			x, y := l.Size()+1, r.Size()+1
			switch {
			case even(x, y):
				newPair(t, l, r).checkBalanced()
			case x <= 4*y && y <= 4*x:
				newPair(t, l, r).checkRotated()
			}
		}
	}
}

// TestHighPairs has trees of many shapes beside others that are just too light for them.
func TestHighPairs(t *testing.T) {
	for _, heavy := range treetest.Many(900) {
		for _, weight := range []int{(heavy.Size() + 1 + 3) / 4, heavy.Size() / 3} {
			if weight < 1 || even(weight, heavy.Size()+1) {
				continue
			}
			light := treetest.Full(weight - 1)
			newPair(t, heavy, light).checkRotated()
			newPair(t, light, heavy).checkRotated()
		}
	}
}

// TestNoTrees has subtrees that no rotation can balance, since the heavy one has no child where one is needed, and others that are missing.
func TestNoTrees(t *testing.T) {
	f := treetest.New(t, 60)
	indexes := []uint32{0, 61, math.MaxUint32}
	for _, left := range []bool{true, false} {
		indexes = append(indexes, f.Chain(5, func(int) bool { return left }))
		zigzag := f.Chain(6, func(k int) bool { return left == (k%2 == 0) })
		indexes = append(indexes, zigzag, f.Make(zigzag, api.Entry{}, zigzag))
	}
	for _, left := range indexes {
		for _, right := range indexes {
			for _, free := range []int{0, 1, 2, 3, 4} {
				f.Leave(free)
				got, err := Make(f.Arena, left, api.Entry{}, right)
				if (err == api.OK) != (got != 0) {
					t.Fatalf("rule 4: %d, %d: %d, %d", left, right, got, err)
				}
				f.Held = append(f.Held, got)
				if found := audit.Check(f.Arena.Dump(), f.Held); len(found) > 0 {
					t.Fatalf("P50.2: %d, %d: %v", left, right, found)
				}
				f.Release(got)
			}
		}
	}
}
