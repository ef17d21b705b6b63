// Package treetest helps to test the layers above the arena: it makes trees of many shapes, and compares the slots of an arena before and after a call. Only tests import it.
package treetest

import (
	"math"
	"slices"

	"versionmap/api"
	"versionmap/arena"
	"versionmap/shape"
)

// Tree is a tree without its entries; nil is the empty one.
type Tree struct {
	Left, Right *Tree
	keys        int
}

// Join returns a tree with these subtrees.
func Join(left, right *Tree) *Tree {
	return &Tree{left, right, left.Size() + 1 + right.Size()}
}

// Size returns the number of nodes.
func (s *Tree) Size() int {
	if s == nil {
		return 0
	}
	return s.keys
}

// Height returns the number of nodes on the longest path downwards.
func (s *Tree) Height() int {
	if s == nil {
		return 0
	}
	return 1 + max(s.Left.Height(), s.Right.Height())
}

// Deepest returns the position, counted from 0, of the node at the end of a longest path downwards.
func (s *Tree) Deepest() int {
	at := 0
	for height := s.Height(); height > 1; height-- {
		if s.Left.Height() == height-1 {
			s = s.Left
		} else {
			at += s.Left.Size() + 1
			s = s.Right
		}
	}
	return at
}

// Plant makes the tree with the entries in the order of an in-order traversal, and returns its root, with one reference to it.
func (s *Tree) Plant(t T, a *arena.Arena, entries []api.Entry) uint32 {
	if s == nil {
		return 0
	}
	at := s.Left.Size()
	left, right := s.Left.Plant(t, a, entries[:at]), s.Right.Plant(t, a, entries[at+1:])
	return MakeNode(t, a, left, entries[at], right)
}

// All returns all trees of n nodes that are balanced.
func All(n int) []*Tree {
	if n == 0 {
		return []*Tree{nil}
	}
	var all []*Tree
	for left := range n {
		if !shape.Balanced(left, n-1-left) {
			continue
		}
		for _, l := range All(left) {
			for _, r := range All(n - 1 - left) {
				all = append(all, Join(l, r))
			}
		}
	}
	return all
}

// UpTo returns all balanced trees of up to most nodes.
func UpTo(most int) []*Tree {
	var all []*Tree
	for n := range most + 1 {
		all = append(all, All(n)...)
	}
	return all
}

// Full returns the tree of n keys that is as low as possible.
func Full(n int) *Tree {
	if n == 0 {
		return nil
	}
	return Join(Full(n/2), Full(n-1-n/2))
}

// Thinnest returns a tree of the least number of keys for its height. Its longest path turns as turns says, again and again, from the root downwards: true is left.
func Thinnest(height int, turns []bool) *Tree {
	if height == 0 {
		return nil
	}
	high := Thinnest(height-1, append(slices.Clone(turns[1:]), turns[0]))
	low := Full(shape.MinKeys(height) - 1 - shape.MinKeys(height-1))
	if turns[0] {
		return Join(high, low)
	}
	return Join(low, high)
}

// Leaning returns a tree of n keys in which one subtree of each node is as light as it can be; heavyLeft is asked for each node which one is not.
func Leaning(n int, heavyLeft func() bool) *Tree {
	if n == 0 {
		return nil
	}
	light := leastWeight(n) - 1
	heavy := n - 1 - light
	if heavyLeft() {
		return Join(Leaning(heavy, heavyLeft), Leaning(light, heavyLeft))
	}
	return Join(Leaning(light, heavyLeft), Leaning(heavy, heavyLeft))
}

// Random returns a tree of n keys in which each node is as far from the middle as next says, and balanced.
func Random(n int, next func(int) int) *Tree {
	if n == 0 {
		return nil
	}
	least := leastWeight(n)
	left := least - 1 + next(n+1-2*least+1)
	return Join(Random(left, next), Random(n-1-left, next))
}

// leastWeight returns the least weight of a subtree of a balanced node with n keys.
func leastWeight(n int) int {
	return (n + 4) / 4
}

// Turns returns some ways for a longest path to turn.
func Turns() [][]bool {
	return [][]bool{{true}, {false}, {true, false}, {false, true}, {true, true, false}, {false, false, true}}
}

// Many returns the empty tree and trees of many shapes: for each height, those that are as thin as possible, and others with as many keys. None has more than most keys.
func Many(most int) []*Tree {
	next := Generator(13)
	all := []*Tree{nil}
	for height := 1; shape.MinKeys(height) <= most; height++ {
		n := shape.MinKeys(height)
		for _, way := range Turns() {
			at := 0
			all = append(all, Thinnest(height, way), Leaning(n, func() bool {
				at++
				return way[at%len(way)]
			}))
		}
		all = append(all, Full(n), Full(n-1), Random(n, next), Leaning(n, func() bool { return next(2) == 0 }))
	}
	return all
}

// Some returns positions of a list of n items: the last one, the first one, and at most most others.
func Some(n, most int) []int {
	if n == 0 {
		return nil
	}
	all := []int{n - 1}
	for at := 0; at < n-1; at += 1 + n/most {
		all = append(all, at)
	}
	return all
}

// Generator returns a function whose results are from 0 to before n and follow no short rule.
func Generator(seed uint64) func(n int) int {
	x := seed
	return func(n int) int {
		x = x*6364136223846793005 + 1442695040888963407
		return int(x>>33) % n
	}
}

// Spaced returns n entries whose keys are on both sides of 0 and have gaps between them. No value is the key of its entry.
func Spaced(n int) []api.Entry {
	entries := make([]api.Entry, n)
	for i := range entries {
		key := int64(3 * (i - n/2))
		entries[i] = api.Entry{Key: key, Value: 1000 - 7*key}
	}
	return entries
}

// Extremes returns keys at the ends of the integers and around 0.
func Extremes() []int64 {
	return []int64{math.MinInt64, math.MinInt64 + 1, -1, 0, 1, math.MaxInt64 - 1, math.MaxInt64}
}

// ExtremeLists returns all lists of entries whose keys are some of the extremes, in ascending order. Their values are extreme, too.
func ExtremeLists() [][]api.Entry {
	keys := Extremes()
	var lists [][]api.Entry
	for set := range 1 << len(keys) {
		var entries []api.Entry
		for bit, key := range keys {
			if set>>bit&1 == 1 {
				entries = append(entries, api.Entry{Key: key, Value: keys[(bit+3)%len(keys)]})
			}
		}
		lists = append(lists, entries)
	}
	return lists
}

// Largest returns the greatest number of keys of a tree beside which an arena has as many free slots as required says.
func Largest(required func(keys int) int) int {
	n := api.MaxSlots
	for n+required(n) > api.MaxSlots {
		n--
	}
	return n
}
