package join

import (
	"slices"

	"versionmap/api"
	"versionmap/arena"
	"versionmap/shape"
)

// tree is a tree without its entries; nil is the empty one.
type tree struct {
	left, right *tree
	keys        int
}

func (s *tree) size() int {
	if s == nil {
		return 0
	}
	return s.keys
}

func node(left, right *tree) *tree {
	return &tree{left, right, left.size() + 1 + right.size()}
}

// plant makes the tree with the entries in the order of an in-order traversal.
func (s *tree) plant(a *arena.Arena, entries []api.Entry) uint32 {
	if s == nil {
		return 0
	}
	at := s.left.size()
	left, right := s.left.plant(a, entries[:at]), s.right.plant(a, entries[at+1:])
	root, _ := a.Make(entries[at].Key, entries[at].Value, left, right)
	a.Release(left)
	a.Release(right)
	return root
}

// allTrees returns all trees of n nodes that are balanced.
func allTrees(n int) []*tree {
	if n == 0 {
		return []*tree{nil}
	}
	var all []*tree
	for left := range n {
		if !shape.Balanced(left, n-1-left) {
			continue
		}
		for _, l := range allTrees(left) {
			for _, r := range allTrees(n - 1 - left) {
				all = append(all, node(l, r))
			}
		}
	}
	return all
}

// smallTrees returns all balanced trees of up to most nodes.
func smallTrees(most int) []*tree {
	var all []*tree
	for n := range most + 1 {
		all = append(all, allTrees(n)...)
	}
	return all
}

// full returns the tree of n keys that is as low as possible.
func full(n int) *tree {
	if n == 0 {
		return nil
	}
	return node(full(n/2), full(n-1-n/2))
}

// thinnest returns a tree of the least number of keys for its height. Its longest path turns as turns says, again and again, from the root downwards: true is left.
func thinnest(height int, turns []bool) *tree {
	if height == 0 {
		return nil
	}
	high := thinnest(height-1, append(slices.Clone(turns[1:]), turns[0]))
	low := full(shape.MinKeys(height) - 1 - shape.MinKeys(height-1))
	if turns[0] {
		return node(high, low)
	}
	return node(low, high)
}

// leaning returns a tree of n keys in which one subtree of each node is as light as it can be; heavyLeft is asked for each node which one is not.
func leaning(n int, heavyLeft func() bool) *tree {
	if n == 0 {
		return nil
	}
	light := (n+4)/4 - 1
	heavy := n - 1 - light
	if heavyLeft() {
		return node(leaning(heavy, heavyLeft), leaning(light, heavyLeft))
	}
	return node(leaning(light, heavyLeft), leaning(heavy, heavyLeft))
}

// random returns a tree of n keys in which each node is as far from the middle as next says, and balanced.
func random(n int, next func(int) int) *tree {
	if n == 0 {
		return nil
	}
	least := (n + 4) / 4
	left := least - 1 + next(n+1-2*least+1)
	return node(random(left, next), random(n-1-left, next))
}

func turns() [][]bool {
	return [][]bool{{true}, {false}, {true, false}, {false, true}, {true, true, false}, {false, false, true}}
}

// manyTrees returns the empty tree and trees of many shapes: for each height, those that are as thin as possible, and others with as many keys. None has more than most keys.
func manyTrees(most int) []*tree {
	next := generator(13)
	all := []*tree{nil}
	for height := 1; shape.MinKeys(height) <= most; height++ {
		n := shape.MinKeys(height)
		for _, way := range turns() {
			at := 0
			all = append(all, thinnest(height, way), leaning(n, func() bool {
				at++
				return way[at%len(way)]
			}))
		}
		all = append(all, full(n), full(n-1), random(n, next), leaning(n, func() bool { return next(2) == 0 }))
	}
	return all
}

// generator returns a function whose results are from 0 to before n and follow no short rule.
func generator(seed uint64) func(n int) int {
	x := seed
	return func(n int) int {
		x = x*6364136223846793005 + 1442695040888963407
		return int(x>>33) % n
	}
}

// spaced returns n entries whose keys are on both sides of 0 and have gaps between them. No value is the key of its entry.
func spaced(n int) []api.Entry {
	entries := make([]api.Entry, n)
	for i := range entries {
		key := int64(3 * (i - n/2))
		entries[i] = api.Entry{Key: key, Value: 1000 - 7*key}
	}
	return entries
}
