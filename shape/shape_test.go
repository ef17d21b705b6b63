package shape

import (
	"math"
	"math/big"
	"slices"
	"testing"

	"versionmap/api"
	"versionmap/arena"
)

// modelBalanced follows the wording of P7.1, with numbers that cannot be too great.
func modelBalanced(left, right int) bool {
	for _, keys := range []int{left, right} {
		if keys < 0 || int64(keys) > 1<<31-1 {
			return false
		}
	}
	l := new(big.Int).Add(big.NewInt(int64(left)), big.NewInt(1))
	r := new(big.Int).Add(big.NewInt(int64(right)), big.NewInt(1))
	three := big.NewInt(3)
	return l.Cmp(new(big.Int).Mul(three, r)) <= 0 && r.Cmp(new(big.Int).Mul(three, l)) <= 0
}

// modelMinKeys follows the wording of P7.2.
func modelMinKeys(height int) int64 {
	if height < 0 || height > 80 {
		return -1
	}
	var w func(h int) int64
	w = func(h int) int64 {
		if h == 0 {
			return 1
		}
		before := w(h - 1)
		third := before / 3
		if before%3 != 0 {
			third++
		}
		return before + third
	}
	return w(height) - 1
}

// modelMaxHeight follows the wording of P7.2.
func modelMaxHeight(keys int) int {
	if keys < 0 || int64(keys) > 1<<31-1 {
		return -1
	}
	for h := 80; ; h-- {
		if modelMinKeys(h) <= int64(keys) {
			return h
		}
	}
}

// model is a dumped arena, of which every subtree is traversed anew each time it is met.
type model struct {
	d api.Dump
}

func (m model) allocated(i uint32) bool {
	return i != 0 && int64(i) <= int64(len(m.d.Slots)) && m.d.Slots[i-1].Allocated
}

// keys returns the keys in the order of an in-order traversal.
func (m model) keys(i uint32) []int64 {
	if i == 0 {
		return nil
	}
	n := m.d.Slots[i-1].Node
	return append(append(m.keys(n.Left), n.Key), m.keys(n.Right)...)
}

func (m model) height(i uint32) int {
	if i == 0 {
		return 0
	}
	n := m.d.Slots[i-1].Node
	return 1 + max(m.height(n.Left), m.height(n.Right))
}

func (m model) balanced(i uint32) bool {
	if i == 0 {
		return true
	}
	n := m.d.Slots[i-1].Node
	return modelBalanced(len(m.keys(n.Left)), len(m.keys(n.Right))) && m.balanced(n.Left) && m.balanced(n.Right)
}

func (m model) measure(root uint32) (api.Shape, api.Errno) {
	if root != 0 && !m.allocated(root) {
		return api.Shape{}, api.ErrInvalid
	}
	keys := m.keys(root)
	for n := 1; n < len(keys); n++ {
		if keys[n-1] >= keys[n] {
			return api.Shape{}, api.ErrOrder
		}
	}
	if !m.balanced(root) {
		return api.Shape{}, api.ErrBalance
	}
	return api.Shape{Keys: len(keys), Height: m.height(root)}, api.OK
}

// expect compares the results of Check and Measure with those that are given, and counts what they read.
func expect(t *testing.T, a *arena.Arena, root uint32, want api.Shape, wantErr api.Errno) {
	t.Helper()
	before := a.Reads()
	if err := Check(a, root); err != wantErr {
		t.Fatalf("P7.3: Check(%d): %d, want %d", root, err, wantErr)
	}
	if got, err := Measure(a, root); got != want || err != wantErr {
		t.Fatalf("P7.4: Measure(%d): %v, %d; want %v, %d", root, got, err, want, wantErr)
	}
	if reads := a.Reads() - before; reads > uint64(4*a.Capacity()+4) {
		t.Fatalf("P7.3: %d reads of %d slots", reads, a.Capacity())
	}
	if wantErr == api.OK && want.Height > MaxHeight(want.Keys) {
		t.Fatalf("P7.5: %v, MaxHeight %d", want, MaxHeight(want.Keys))
	}
}

// compare compares the results of Check and Measure with those of the model.
func compare(t *testing.T, a *arena.Arena, root uint32) {
	t.Helper()
	want, err := model{a.Dump()}.measure(root)
	expect(t, a, root, want, err)
}

func newArena(t *testing.T, capacity int) *arena.Arena {
	t.Helper()
	a, err := arena.New(capacity)
	if err != api.OK {
		t.Fatalf("P5.1: New(%d): %d", capacity, err)
	}
	return a
}

// makeNode makes a node and takes over the caller's references to its children.
func makeNode(t *testing.T, a *arena.Arena, key int64, left, right uint32) uint32 {
	t.Helper()
	i, err := a.Make(key, 0, left, right)
	if err != api.OK {
		t.Fatalf("P5.2: Make(%d, 0, %d, %d): %d", key, left, right, err)
	}
	a.Release(left)
	if right != left {
		a.Release(right)
	}
	return i
}

// strangers returns numbers that are not slots of an arena with this capacity. Those that are slots modulo 2^16 or as a signed number are among them.
func strangers(capacity int) []uint32 {
	n := uint32(capacity)
	return []uint32{n + 1, n + 2, api.MaxSlots + 1, 1<<17 + 1, 1 << 31, 1<<31 + 1, math.MaxUint32 - 1, math.MaxUint32}
}

// badSizes returns numbers that are not from 0 to MaxSize.
func badSizes() []int {
	size := api.MaxSize
	return []int{-1, -2, -3, -4, -size, size + 1, size + 2, 3 * size, math.MaxInt, math.MaxInt - 1, math.MinInt, math.MinInt + 1}
}

func TestExample(t *testing.T) {
	for h, want := range []int{0, 1, 2, 3, 5, 7, 10} {
		if got := MinKeys(h); got != want {
			t.Errorf("P7.2: MinKeys(%d): %d", h, got)
		}
	}
	if got := MaxHeight(9); got != 5 {
		t.Errorf("P7.2: MaxHeight(9): %d", got)
	}
	if !Balanced(0, 2) || Balanced(0, 3) {
		t.Errorf("P7.1: %t, %t", Balanced(0, 2), Balanced(0, 3))
	}
}

func compareBalanced(t *testing.T, left, right int) {
	t.Helper()
	want := modelBalanced(left, right)
	if got := Balanced(left, right); got != want {
		t.Errorf("P7.1: Balanced(%d, %d): %t", left, right, got)
	}
	if got := Balanced(right, left); got != want {
		t.Errorf("P7.1: Balanced(%d, %d): %t", right, left, got)
	}
}

func TestBalanced(t *testing.T) {
	for left := range 150 {
		for right := range 150 {
			compareBalanced(t, left, right)
		}
	}
	sizes := []int{0, 1, 1000, 1 << 16, 1 << 30, api.MaxSize/3 - 1, api.MaxSize / 3, api.MaxSize/3 + 1, api.MaxSize - 1, api.MaxSize}
	for _, left := range sizes {
		for _, near := range []int{0, left / 3, left, api.MaxSize / 3, api.MaxSize - 3} {
			for right := max(near-3, 0); right < near+3; right++ {
				compareBalanced(t, left, right)
			}
		}
		for right := 3*int64(left) - 3; right < 3*int64(left)+6; right++ {
			if right <= api.MaxSize {
				compareBalanced(t, left, int(right))
			}
		}
	}
	if !Balanced(api.MaxSize, api.MaxSize) || !Balanced(api.MaxSize, 715827882) || Balanced(api.MaxSize, 715827881) {
		t.Error("P7.1: the greatest sizes")
	}
}

func TestBalancedInvalid(t *testing.T) {
	for _, bad := range badSizes() {
		for _, other := range append(badSizes(), 0, 1, 2, api.MaxSize-1, api.MaxSize) {
			if Balanced(bad, other) || Balanced(other, bad) {
				t.Errorf("P7.1: Balanced of %d and %d", bad, other)
			}
		}
	}
}

func TestMinKeys(t *testing.T) {
	for h := -5; h <= 90; h++ {
		if got, want := MinKeys(h), modelMinKeys(h); got != int(want) {
			t.Errorf("P7.2: MinKeys(%d): %d, want %d", h, got, want)
		}
	}
	for _, h := range []int{-81, -80, 81, 82, 160, 256, 1 << 16, math.MaxInt32, math.MinInt32, math.MaxInt, math.MinInt} {
		if got := MinKeys(h); got != -1 {
			t.Errorf("P7.2: MinKeys(%d): %d", h, got)
		}
	}
}

func compareMaxHeight(t *testing.T, keys int) {
	t.Helper()
	if got, want := MaxHeight(keys), modelMaxHeight(keys); got != want {
		t.Errorf("P7.2: MaxHeight(%d): %d, want %d", keys, got, want)
	}
}

func TestMaxHeight(t *testing.T) {
	for keys := range 3000 {
		compareMaxHeight(t, keys)
	}
	for h := range 81 {
		least := modelMinKeys(h)
		for keys := max(least-2, 0); keys <= least+2 && keys <= api.MaxSize; keys++ {
			compareMaxHeight(t, int(keys))
		}
	}
	for _, keys := range append(badSizes(), 1<<30, api.MaxSize-1, api.MaxSize) {
		compareMaxHeight(t, keys)
	}
}

// TestHeightsOfAllTrees finds the heights that trees with n balanced nodes can have from those that their subtrees can have.
func TestHeightsOfAllTrees(t *testing.T) {
	const most = 300
	possible := []map[int]bool{{0: true}}
	leastKeys := map[int]int{0: 0}
	for n := 1; n <= most; n++ {
		heights := map[int]bool{}
		for left := range n {
			if !modelBalanced(left, n-1-left) {
				continue
			}
			for l := range possible[left] {
				for r := range possible[n-1-left] {
					heights[1+max(l, r)] = true
				}
			}
		}
		possible = append(possible, heights)
		for h := range heights {
			if h > MaxHeight(n) {
				t.Errorf("P7.5: height %d with %d keys, MaxHeight %d", h, n, MaxHeight(n))
			}
			if _, found := leastKeys[h]; !found {
				leastKeys[h] = n
			}
		}
	}
	if len(leastKeys) != MaxHeight(most)+1 {
		t.Errorf("P7.2: heights up to %d, MaxHeight(%d): %d", len(leastKeys)-1, most, MaxHeight(most))
	}
	for h, keys := range leastKeys {
		if MinKeys(h) != keys {
			t.Errorf("P7.2: MinKeys(%d): %d, want %d", h, MinKeys(h), keys)
		}
	}
}

func TestEmptyTree(t *testing.T) {
	a := newArena(t, 3)
	expect(t, a, 0, api.Shape{}, api.OK)
	for key := range int64(3) {
		makeNode(t, a, key, 0, 0)
		expect(t, a, 0, api.Shape{}, api.OK)
	}
}

func TestRootInvalid(t *testing.T) {
	const capacity = 4
	for allocated := range capacity + 1 {
		a := newArena(t, capacity)
		for key := range allocated {
			makeNode(t, a, int64(key), 0, 0)
		}
		for i := allocated + 1; i <= capacity; i++ {
			expect(t, a, uint32(i), api.Shape{}, api.ErrInvalid)
		}
		for _, i := range strangers(capacity) {
			expect(t, a, i, api.Shape{}, api.ErrInvalid)
		}
	}
}

// TestReleasedRoot holds that a slot that was released is no tree, until it is allocated again.
func TestReleasedRoot(t *testing.T) {
	a := newArena(t, 2)
	i := makeNode(t, a, 5, 0, 0)
	expect(t, a, i, api.Shape{Keys: 1, Height: 1}, api.OK)
	a.Release(i)
	expect(t, a, i, api.Shape{}, api.ErrInvalid)
	i = makeNode(t, a, 6, makeNode(t, a, 4, 0, 0), 0)
	expect(t, a, i, api.Shape{Keys: 2, Height: 2}, api.OK)
}

// TestSmallArenas has all arenas of up to four nodes with four keys, also those in which nodes share their children. Each node is the root once.
func TestSmallArenas(t *testing.T) {
	const capacity = 4
	keys := []int64{math.MinInt64, -1, 0, math.MaxInt64}
	a := newArena(t, capacity)
	found := map[api.Errno]int{}
	var extend func(nodes uint32)
	extend = func(nodes uint32) {
		if nodes == capacity {
			return
		}
		for _, key := range keys {
			for left := range nodes + 1 {
				for right := range nodes + 1 {
					i, _ := a.Make(key, 0, left, right)
					compare(t, a, i)
					err := Check(a, i)
					found[err]++
					if err == api.OK && (Check(a, left) != api.OK || Check(a, right) != api.OK) {
						t.Fatalf("P7.5: %v", a.Dump())
					}
					extend(nodes + 1)
					a.Release(i)
				}
			}
		}
	}
	extend(0)
	for _, err := range []api.Errno{api.OK, api.ErrOrder, api.ErrBalance} {
		if found[err] == 0 {
			t.Errorf("P7.3: no arena with the result %d", err)
		}
	}
}

// tree is a tree without its keys; nil is the empty one.
type tree struct {
	left, right *tree
}

// allTrees returns all trees with n nodes.
func allTrees(n int) []*tree {
	if n == 0 {
		return []*tree{nil}
	}
	var trees []*tree
	for left := range n {
		for _, l := range allTrees(left) {
			for _, r := range allTrees(n - 1 - left) {
				trees = append(trees, &tree{l, r})
			}
		}
	}
	return trees
}

// plant makes a tree with the given keys in the order of an in-order traversal, and returns its root and the keys that are left over.
func (s *tree) plant(t *testing.T, a *arena.Arena, keys []int64) (uint32, []int64) {
	t.Helper()
	if s == nil {
		return 0, keys
	}
	left, keys := s.left.plant(t, a, keys)
	right, rest := s.right.plant(t, a, keys[1:])
	return makeNode(t, a, keys[0], left, right), rest
}

// TestAllTrees has each tree of up to eight nodes with ascending keys, and with two neighbouring keys that are equal or the wrong way round.
func TestAllTrees(t *testing.T) {
	const most = 8
	a := newArena(t, most)
	run := func(s *tree, keys []int64) {
		t.Helper()
		root, _ := s.plant(t, a, keys)
		compare(t, a, root)
		a.Release(root)
	}
	for n := range most + 1 {
		ascending := make([]int64, n)
		for k := range ascending {
			ascending[k] = int64(k - n/2)
		}
		for _, s := range allTrees(n) {
			run(s, ascending)
			for k := 1; k < n; k++ {
				keys := slices.Clone(ascending)
				keys[k] = ascending[k-1]
				run(s, keys)
				keys[k-1] = ascending[k]
				run(s, keys)
			}
		}
	}
}

// TestSubtreesOfTrees holds P7.5 for all indexes of a large tree.
func TestSubtreesOfTrees(t *testing.T) {
	a := newArena(t, 1000)
	root := middle(t, a, 0, 1000)
	expect(t, a, root, api.Shape{Keys: 1000, Height: 10}, api.OK)
	for i := range uint32(1000) {
		s, err := Measure(a, i+1)
		if err != api.OK || s.Keys != a.Size(i+1) || s.Height > MaxHeight(s.Keys) {
			t.Errorf("P7.5: %d: %v, %d", i+1, s, err)
		}
	}
}

// middle makes the tree of the keys from lo to before hi whose nodes have the key in the middle.
func middle(t *testing.T, a *arena.Arena, lo, hi int64) uint32 {
	t.Helper()
	if lo >= hi {
		return 0
	}
	key := (lo + hi) / 2
	left := middle(t, a, lo, key)
	right := middle(t, a, key+1, hi)
	return makeNode(t, a, key, left, right)
}

// thinnest makes a tree of this height that has as few keys as it can, all of them at least lo, and returns its root and the key after the greatest one. left says on which side the higher subtree is.
func thinnest(t *testing.T, a *arena.Arena, height int, lo int64, left func(height int) bool) (uint32, int64) {
	t.Helper()
	if height == 0 {
		return 0, lo
	}
	light := MinKeys(height) - 1 - MinKeys(height-1)
	if left(height) {
		high, key := thinnest(t, a, height-1, lo, left)
		hi := key + 1 + int64(light)
		return makeNode(t, a, key, high, middle(t, a, key+1, hi)), hi
	}
	key := lo + int64(light)
	low := middle(t, a, lo, key)
	high, hi := thinnest(t, a, height-1, key+1, left)
	return makeNode(t, a, key, low, high), hi
}

func sides() []func(height int) bool {
	return []func(height int) bool{
		func(height int) bool { return true },
		func(height int) bool { return false },
		func(height int) bool { return height%2 == 0 },
	}
}

// TestThinnestTrees has trees of all heights that an arena has room for, each as high as it can be, and such a tree beside one that is too light by one key.
func TestThinnestTrees(t *testing.T) {
	a := newArena(t, api.MaxSlots)
	for _, left := range sides() {
		for height := range MaxHeight(api.MaxSlots) + 1 {
			root, hi := thinnest(t, a, height, 0, left)
			expect(t, a, root, api.Shape{Keys: MinKeys(height), Height: height}, api.OK)
			if MaxHeight(MinKeys(height)) != height {
				t.Errorf("P7.2: MaxHeight(%d): %d", MinKeys(height), MaxHeight(MinKeys(height)))
			}
			light := int64(MinKeys(height+1) - MinKeys(height) - 2)
			if light >= 0 && height < MaxHeight(api.MaxSlots) {
				root = makeNode(t, a, hi, root, middle(t, a, hi+1, hi+1+light))
				expect(t, a, root, api.Shape{}, api.ErrBalance)
			}
			a.Release(root)
		}
	}
	if a.Free() != api.MaxSlots {
		t.Errorf("P7.3: %d free", a.Free())
	}
}

func TestExtremeKeys(t *testing.T) {
	const least, greatest = math.MinInt64, math.MaxInt64
	cases := []struct {
		keys []int64
		want api.Errno
	}{
		{[]int64{least}, api.OK},
		{[]int64{greatest}, api.OK},
		{[]int64{0}, api.OK},
		{[]int64{least, least + 1}, api.OK},
		{[]int64{least, greatest}, api.OK},
		{[]int64{greatest - 1, greatest}, api.OK},
		{[]int64{least, 0, greatest}, api.OK},
		{[]int64{least, -1, 0, 1, greatest}, api.OK},
		{[]int64{least, least}, api.ErrOrder},
		{[]int64{greatest, greatest}, api.ErrOrder},
		{[]int64{0, 0}, api.ErrOrder},
		{[]int64{least + 1, least}, api.ErrOrder},
		{[]int64{greatest, least}, api.ErrOrder},
		{[]int64{1, least}, api.ErrOrder},
		{[]int64{greatest, -1}, api.ErrOrder},
		{[]int64{1 << 32, 1}, api.ErrOrder},
		{[]int64{least, 0, 0, greatest}, api.ErrOrder},
		{[]int64{least, 0, greatest, least}, api.ErrOrder},
		{[]int64{greatest, least, 0, greatest}, api.ErrOrder},
	}
	a := newArena(t, 5)
	for _, c := range cases {
		for _, s := range allTrees(len(c.keys)) {
			root, _ := s.plant(t, a, c.keys)
			compare(t, a, root)
			err := Check(a, root)
			if err != c.want && (c.want != api.OK || err != api.ErrBalance) {
				t.Errorf("P7.3: %d: %d, want %d", c.keys, err, c.want)
			}
			a.Release(root)
		}
	}
}

// TestFarApart has keys that are in order in each node and its children, but not in the whole tree.
func TestFarApart(t *testing.T) {
	full := &tree{&tree{&tree{}, &tree{}}, &tree{&tree{}, &tree{}}}
	cases := []struct {
		keys []int64
		want api.Errno
	}{
		{[]int64{1, 2, 3, 4, 5, 6, 7}, api.OK},
		{[]int64{1, 2, 4, 4, 5, 6, 7}, api.ErrOrder},
		{[]int64{1, 2, 9, 4, 5, 6, 7}, api.ErrOrder},
		{[]int64{1, 2, 3, 4, 4, 6, 7}, api.ErrOrder},
		{[]int64{1, 2, 3, 4, 0, 6, 7}, api.ErrOrder},
		{[]int64{1, 2, 3, 4, 5, 6, 6}, api.ErrOrder},
		{[]int64{2, 2, 3, 4, 5, 6, 7}, api.ErrOrder},
	}
	a := newArena(t, 7)
	for _, c := range cases {
		root, _ := full.plant(t, a, c.keys)
		compare(t, a, root)
		if err := Check(a, root); err != c.want {
			t.Errorf("P7.3: %d: %d, want %d", c.keys, err, c.want)
		}
		a.Release(root)
	}
}

// TestOrderComesFirst has a node that is not balanced before, below, above or after two keys that are not ascending.
func TestOrderComesFirst(t *testing.T) {
	chain := &tree{&tree{&tree{&tree{}, nil}, nil}, nil}
	other := &tree{&tree{}, &tree{}}
	cases := []struct {
		s    *tree
		keys []int64
		want api.Errno
	}{
		{&tree{chain, other}, []int64{1, 2, 3, 4, 5, 6, 7, 8}, api.ErrBalance},
		{&tree{other, chain}, []int64{1, 2, 3, 4, 5, 6, 7, 8}, api.ErrBalance},
		{&tree{chain, other}, []int64{1, 2, 3, 4, 5, 6, 7, 7}, api.ErrOrder},
		{&tree{chain, other}, []int64{2, 2, 3, 4, 5, 6, 7, 8}, api.ErrOrder},
		{&tree{chain, other}, []int64{1, 2, 3, 5, 5, 6, 7, 8}, api.ErrOrder},
		{&tree{other, chain}, []int64{1, 2, 3, 4, 5, 6, 7, 7}, api.ErrOrder},
		{&tree{other, chain}, []int64{2, 2, 3, 4, 5, 6, 7, 8}, api.ErrOrder},
		{chain, []int64{1, 2, 3, 4}, api.ErrBalance},
		{chain, []int64{1, 2, 3, 3}, api.ErrOrder},
		{chain, []int64{2, 1, 3, 4}, api.ErrOrder},
	}
	a := newArena(t, 8)
	for _, c := range cases {
		root, _ := c.s.plant(t, a, c.keys)
		expect(t, a, root, api.Shape{}, c.want)
		compare(t, a, root)
		a.Release(root)
	}
}

// TestOneNodeNotBalanced has a violation that only one node shows, at every place of a tree.
func TestOneNodeNotBalanced(t *testing.T) {
	full := &tree{&tree{&tree{}, &tree{}}, &tree{&tree{}, &tree{}}}
	chain := &tree{nil, &tree{nil, &tree{}}}
	keys := []int64{1, 2, 3, 4, 5, 6, 7, 8, 9, 10}
	a := newArena(t, 10)
	for at := range full.gaps() {
		root, rest := full.put(at, chain).plant(t, a, keys)
		if len(rest) != 0 {
			t.Fatalf("no chain in gap %d", at)
		}
		expect(t, a, root, api.Shape{}, api.ErrBalance)
		compare(t, a, root)
		a.Release(root)
	}
}

// gaps returns how many empty trees are in s.
func (s *tree) gaps() int {
	if s == nil {
		return 1
	}
	return s.left.gaps() + s.right.gaps()
}

// put returns s with x in the place of the empty tree number at, counted from the left.
func (s *tree) put(at int, x *tree) *tree {
	switch {
	case s != nil:
		return &tree{s.left.put(at, x), s.right.put(at-s.left.gaps(), x)}
	case at == 0:
		return x
	}
	return nil
}

// TestSharedSubtrees has trees with 2^31 - 1 and more paths, which are checked in no more time than their slots are.
func TestSharedSubtrees(t *testing.T) {
	for _, step := range []int64{-1, 0, 1} {
		a := newArena(t, 40)
		i := uint32(0)
		for k := range int64(31) {
			i = makeNode(t, a, step*k, i, i)
			if k > 0 {
				expect(t, a, i, api.Shape{}, api.ErrOrder)
			}
		}
		if a.Size(i) != api.MaxSize {
			t.Errorf("P5.2: Size %d", a.Size(i))
		}
	}
}

// TestSharedTwice has trees in which one subtree occurs in two places, and all the other keys are ascending.
func TestSharedTwice(t *testing.T) {
	a := newArena(t, 64)
	join := func(key int64, left, right uint32) uint32 {
		i, _ := a.Make(key, 0, left, right)
		return i
	}
	shared := middle(t, a, 10, 13)
	left := join(20, shared, middle(t, a, 21, 24))
	for _, root := range []uint32{
		join(30, left, shared),
		join(30, left, left),
		join(5, 0, join(14, shared, join(15, shared, 0))),
		join(5, shared, join(14, shared, middle(t, a, 15, 18))),
	} {
		compare(t, a, root)
		expect(t, a, root, api.Shape{}, api.ErrOrder)
	}
}

// TestSharedBetweenTrees holds that a subtree may be shared by several trees.
func TestSharedBetweenTrees(t *testing.T) {
	a := newArena(t, 64)
	left, right := middle(t, a, 0, 7), middle(t, a, 10, 20)
	for key := int64(7); key < 10; key++ {
		root, _ := a.Make(key, 0, left, right)
		expect(t, a, root, api.Shape{Keys: 18, Height: 5}, api.OK)
	}
	expect(t, a, left, api.Shape{Keys: 7, Height: 3}, api.OK)
	expect(t, a, right, api.Shape{Keys: 10, Height: 4}, api.OK)
}

// TestRandomArenas has arenas in which nodes share their children, and keys that are often ascending.
func TestRandomArenas(t *testing.T) {
	next := generator()
	found := map[api.Errno]int{}
	for range 2000 {
		const capacity = 16
		a := newArena(t, capacity)
		for n := range capacity {
			left, right := uint32(next(n+1)), uint32(next(n+1))
			if a.Size(left)+a.Size(right) > 300 {
				left, right = 0, 0
			}
			key := int64(next(20))
			m := model{a.Dump()}
			if keys := m.keys(left); len(keys) > 0 && next(8) > 0 {
				key = keys[len(keys)-1] + 1
			}
			if keys := m.keys(right); len(keys) > 0 && keys[0] <= key && next(8) > 0 {
				right = 0
			}
			i, _ := a.Make(key, 0, left, right)
			compare(t, a, i)
			found[Check(a, i)]++
		}
	}
	for _, err := range []api.Errno{api.OK, api.ErrOrder, api.ErrBalance} {
		if found[err] < 1000 {
			t.Errorf("P7.3: %d arenas with the result %d", found[err], err)
		}
	}
}

// generator returns a function whose results are from 0 to before n and follow no short rule.
func generator() func(n int) int {
	x := uint64(1)
	return func(n int) int {
		x = x*6364136223846793005 + 1442695040888963407
		return int(x>>33) % n
	}
}

// TestDeepTrees has chains of all slots, with ascending and with descending keys.
func TestDeepTrees(t *testing.T) {
	a := newArena(t, api.MaxSlots)
	for _, c := range []struct {
		step int64
		left bool
		want api.Errno
	}{
		{1, true, api.ErrBalance}, {-1, false, api.ErrBalance},
		{-1, true, api.ErrOrder}, {1, false, api.ErrOrder},
		{0, true, api.ErrOrder}, {0, false, api.ErrOrder},
	} {
		root := uint32(0)
		for k := range int64(api.MaxSlots) {
			left, right := uint32(0), root
			if c.left {
				left, right = root, 0
			}
			root = makeNode(t, a, c.step*k, left, right)
		}
		expect(t, a, root, api.Shape{}, c.want)
		a.Release(root)
	}
}

func TestFullArena(t *testing.T) {
	a := newArena(t, api.MaxSlots)
	root := middle(t, a, 0, api.MaxSlots)
	if a.Free() != 0 {
		t.Fatalf("P5.2: %d free", a.Free())
	}
	expect(t, a, root, api.Shape{Keys: api.MaxSlots, Height: 17}, api.OK)
}

// TestNothingChanges holds that the arena is the same afterwards, whatever the result is.
func TestNothingChanges(t *testing.T) {
	a := newArena(t, 20)
	good := middle(t, a, 0, 7)
	i := makeNode(t, a, 1, 0, 0)
	order := makeNode(t, a, 1, i, 0)
	balance := middle(t, a, 10, 13)
	a.Retain(balance)
	balance = makeNode(t, a, 20, balance, 0)
	before := a.Dump()
	for _, c := range []struct {
		root uint32
		want api.Errno
	}{{0, api.OK}, {good, api.OK}, {order, api.ErrOrder}, {balance, api.ErrBalance}, {19, api.ErrInvalid}, {99, api.ErrInvalid}} {
		for range 2 {
			if err := Check(a, c.root); err != c.want {
				t.Errorf("P7.3: Check(%d): %d, want %d", c.root, err, c.want)
			}
			Measure(a, c.root)
		}
	}
	after := a.Dump()
	for n := range before.Slots {
		if before.Slots[n] != after.Slots[n] {
			t.Errorf("rule 5: slot %d: %v, %v", n+1, before.Slots[n], after.Slots[n])
		}
	}
	if len(before.Free) != len(after.Free) {
		t.Errorf("rule 5: free %d, %d", before.Free, after.Free)
	}
}

// TestCircles has circles, and children that are not allocated. A caller makes them that releases references that it does not hold. Then the document says little more than that Check terminates, but a circle has no ascending keys, and no tree has a child that is no tree.
func TestCircles(t *testing.T) {
	for _, c := range []struct{ below, above [2]bool }{
		{[2]bool{true, false}, [2]bool{true, false}},
		{[2]bool{true, false}, [2]bool{false, true}},
		{[2]bool{false, true}, [2]bool{true, false}},
		{[2]bool{false, true}, [2]bool{false, true}},
		{[2]bool{true, true}, [2]bool{true, true}},
	} {
		a := newArena(t, 3)
		leaf, _ := a.Make(1, 0, 0, 0)
		above, _ := a.Make(2, 0, only(leaf, c.above[0]), only(leaf, c.above[1]))
		for a.Count(leaf) > 0 {
			a.Release(leaf)
		}
		if err := Check(a, above); err == api.OK {
			t.Errorf("P7.5: a child that is not allocated: %d", err)
		}
		below, _ := a.Make(3, 0, only(above, c.below[0]), only(above, c.below[1]))
		if below != leaf {
			t.Fatalf("slot %d, want %d", below, leaf)
		}
		for _, i := range []uint32{above, below} {
			expect(t, a, i, api.Shape{}, api.ErrOrder)
		}
	}
}

// only returns i if it is used, and otherwise the empty tree.
func only(i uint32, used bool) uint32 {
	if used {
		return i
	}
	return 0
}

// TestReleasedTooOften has callers that release references that they do not hold. Then only rule 1 holds.
func TestReleasedTooOften(t *testing.T) {
	const capacity = 5
	a := newArena(t, capacity)
	next := generator()
	for range 20000 {
		i, j := uint32(next(capacity+2)), uint32(next(capacity+2))
		if next(2) == 0 {
			a.Make(int64(next(9)), 0, i, j)
		} else {
			a.Release(i)
		}
		for i := range uint32(capacity + 2) {
			s, err := Measure(a, i)
			if err != Check(a, i) || err != api.OK && s != (api.Shape{}) {
				t.Fatalf("P7.4: %v, %d", s, err)
			}
		}
	}
}
