package reserve

import (
	"slices"
	"testing"

	"versionmap/api"
	"versionmap/shape"
)

// The operations that make reservations are those of later layers. P8.2 says that they return ErrFull for too few free slots alone, so that a reservation must depend on nothing but the numbers of keys, and must be enough for every tree with these numbers. The tests of this file hold both.

// TestOnlyArguments holds that earlier calls have no effect on the results.
func TestOnlyArguments(t *testing.T) {
	numbers := append(edges(), -1, api.MaxSlots+1)
	for _, f := range functions() {
		var first, again []int
		f.forAll(numbers, func(n [3]int) { first = append(first, f.call(n)) })
		slices.Reverse(numbers)
		f.forAll(numbers, func(n [3]int) { again = append(again, f.call(n)) })
		slices.Reverse(numbers)
		slices.Reverse(again)
		if !slices.Equal(first, again) {
			t.Errorf("P8.2: %s has different results for the same arguments", f.name)
		}
	}
}

// TestMoreKeys holds that no number of keys requires fewer slots than a lesser one.
func TestMoreKeys(t *testing.T) {
	for _, f := range functions() {
		f.forAll(edges(), func(n [3]int) {
			for at := range f.arguments {
				more := n
				more[at]++
				if n[at] < api.MaxSlots && f.call(more) < f.call(n) {
					t.Fatalf("P8.2: %s%v: %d; %v: %d", f.name, n[:f.arguments], f.call(n), more[:f.arguments], f.call(more))
				}
			}
		})
	}
}

// TestNewTree holds that the operations that may replace all nodes can build the whole result and copy one more path.
func TestNewTree(t *testing.T) {
	for _, x := range edges() {
		for _, y := range edges() {
			path := 4 * shape.MaxHeight(x+y)
			if got := SetOperation(x, y); got < x+y+path {
				t.Errorf("P8.2: SetOperation(%d, %d): %d", x, y, got)
			}
			if got := Apply(x, y); got < x+y+path {
				t.Errorf("P8.2: Apply(%d, %d): %d", x, y, got)
			}
			if got := Merge(0, x, y); got < x+y+path {
				t.Errorf("P8.2: Merge(0, %d, %d): %d", x, y, got)
			}
		}
	}
}

// tree is a tree of which only the shape matters.
type tree struct {
	left, right *tree
	keys        int
}

func (t *tree) size() int {
	if t == nil {
		return 0
	}
	return t.keys
}

// copier copies paths as the later layers do, with nodes that nobody ever frees. It counts them.
type copier struct {
	made int
}

func (c *copier) node(left, right *tree) *tree {
	c.made++
	return &tree{left, right, left.size() + 1 + right.size()}
}

// balance makes a node and rotates it if one of the subtrees is too heavy.
func (c *copier) balance(left, right *tree) *tree {
	n := c.node(left, right)
	switch {
	case shape.Balanced(left.size(), right.size()):
		return n
	case left.size() < right.size():
		return c.rotateLeft(n)
	}
	return c.rotateRight(n)
}

func (c *copier) rotateLeft(n *tree) *tree {
	inner, outer := n.right.left, n.right.right
	if inner.size()+1 < 2*(outer.size()+1) {
		return c.node(c.node(n.left, inner), outer)
	}
	return c.node(c.node(n.left, inner.left), c.node(inner.right, outer))
}

func (c *copier) rotateRight(n *tree) *tree {
	outer, inner := n.left.left, n.left.right
	if inner.size()+1 < 2*(outer.size()+1) {
		return c.node(outer, c.node(inner, n.right))
	}
	return c.node(c.node(outer, inner.left), c.node(inner.right, n.right))
}

func (c *copier) join(left, right *tree) *tree {
	switch {
	case shape.Balanced(left.size(), right.size()):
		return c.node(left, right)
	case left.size() < right.size():
		return c.balance(c.join(left, right.left), right.right)
	}
	return c.balance(left.left, c.join(left.right, right))
}

// insert returns t with a new key at the position at, counted from 0.
func (c *copier) insert(t *tree, at int) *tree {
	switch {
	case t == nil:
		return c.node(nil, nil)
	case at <= t.left.size():
		return c.balance(c.insert(t.left, at), t.right)
	}
	return c.balance(t.left, c.insert(t.right, at-t.left.size()-1))
}

// remove returns t without the key at the position at.
func (c *copier) remove(t *tree, at int) *tree {
	switch {
	case at < t.left.size():
		return c.balance(c.remove(t.left, at), t.right)
	case at > t.left.size():
		return c.balance(t.left, c.remove(t.right, at-t.left.size()-1))
	case t.left == nil:
		return t.right
	case t.right == nil:
		return t.left
	case t.left.size() < t.right.size():
		return c.balance(t.left, c.remove(t.right, 0))
	}
	return c.balance(c.remove(t.left, t.left.size()-1), t.right)
}

// split returns the first keys of t, at of them, and those behind the key at the position at.
func (c *copier) split(t *tree, at int) (*tree, *tree) {
	switch {
	case at < t.left.size():
		left, right := c.split(t.left, at)
		return left, c.join(right, t.right)
	case at > t.left.size():
		left, right := c.split(t.right, at-t.left.size()-1)
		return c.join(t.left, left), right
	}
	return t.left, t.right
}

// full returns the tree of n keys that is as low as possible.
func full(n int) *tree {
	if n == 0 {
		return nil
	}
	return new(copier).node(full(n/2), full(n-1-n/2))
}

// thinnest returns a tree of the least number of keys for its height. Its longest path turns as turns says, again and again, from the root downwards: true is left.
func thinnest(height int, turns []bool) *tree {
	if height == 0 {
		return nil
	}
	rest := append(slices.Clone(turns[1:]), turns[0])
	high := thinnest(height-1, rest)
	low := full((high.size()+3)/3 - 1)
	if turns[0] {
		return new(copier).node(high, low)
	}
	return new(copier).node(low, high)
}

// random returns a tree of n keys in which each node is as far from the middle as next says, and balanced.
func random(n int, next func(int) int) *tree {
	if n == 0 {
		return nil
	}
	least := (n + 4) / 4
	left := least - 1 + next(n+1-2*least+1)
	return new(copier).node(random(left, next), random(n-1-left, next))
}

// grown returns a tree of n keys that were inserted at the positions that next says.
func grown(n int, next func(int) int) *tree {
	var t *tree
	for t.size() < n {
		t = new(copier).insert(t, next(t.size()+1))
	}
	return t
}

func check(t *testing.T, s *tree) {
	t.Helper()
	if s == nil {
		return
	}
	if !shape.Balanced(s.left.size(), s.right.size()) {
		t.Fatalf("P7.3: a node with %d and %d keys below", s.left.size(), s.right.size())
	}
	check(t, s.left)
	check(t, s.right)
}

// generator returns a function whose results are from 0 to before n and follow no short rule.
func generator() func(n int) int {
	x := uint64(8)
	return func(n int) int {
		x = x*6364136223846793005 + 1442695040888963407
		return int(x>>33) % n
	}
}

// trees returns trees of many shapes, with at most most keys.
func trees(most int) []*tree {
	next := generator()
	first, last := func(int) int { return 0 }, func(n int) int { return n - 1 }
	ways := [][]bool{{true}, {false}, {true, false}, {false, true}, {true, true, false}, {false, false, true}}
	var all []*tree
	for height := 1; shape.MinKeys(height) <= most; height++ {
		n := shape.MinKeys(height)
		for _, turns := range ways {
			all = append(all, thinnest(height, turns))
		}
		for _, choose := range []func(int) int{next, first, last} {
			all = append(all, random(n, choose), grown(n, choose))
		}
		all = append(all, full(n), full(n-1))
	}
	return all
}

// positions returns positions of a tree of n keys: all of them, or those at the ends and a few more.
func positions(n int) []int {
	var all []int
	for at := range n {
		if n <= 100 || at < 3 || at >= n-3 || at%(n/30) == 0 {
			all = append(all, at)
		}
	}
	return all
}

// holds compares the nodes that were made with the reservation, and holds that the results are trees with so many keys.
func holds(t *testing.T, name string, c copier, reservation, keys int, results ...*tree) {
	t.Helper()
	if c.made > reservation {
		t.Errorf("P8.2: %s: %d nodes, but %d slots", name, c.made, reservation)
	}
	for _, result := range results {
		keys -= result.size()
	}
	if keys != 0 {
		t.Fatalf("%s: %d keys are lost", name, keys)
	}
}

// TestPathsSuffice holds that the reservations of one path are enough, even if no node is freed before the end.
func TestPathsSuffice(t *testing.T) {
	for number, s := range trees(6000) {
		check(t, s)
		n := s.size()
		for _, at := range positions(n) {
			var insert, remove, split copier
			inserted := insert.insert(s, at)
			holds(t, "insert", insert, Insert(n), n+1, inserted)
			removed := remove.remove(s, at)
			holds(t, "remove", remove, Delete(n), n-1, removed)
			left, right := split.split(s, at)
			holds(t, "split", split, Split(n), n-1, left, right)
			if at == n/2 || n <= 100 && number%3 == 0 {
				check(t, inserted)
				check(t, removed)
				check(t, left)
				check(t, right)
			}
		}
	}
}

// TestJoinsSuffice has trees that are joined with each other.
func TestJoinsSuffice(t *testing.T) {
	all := append(trees(1200), nil)
	for number, left := range all {
		for other, right := range all {
			var c copier
			joined := c.join(left, right)
			holds(t, "join", c, Join(left.size(), right.size()), left.size()+1+right.size(), joined)
			if (number+other)%10 == 0 {
				check(t, joined)
			}
		}
	}
}
