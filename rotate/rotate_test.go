package rotate

import (
	"math"
	"slices"
	"testing"

	"versionmap/api"
	"versionmap/arena"
	"versionmap/audit"
)

// rotation is a function of the package with its wording.
type rotation struct {
	name    string
	promise string
	call    func(*arena.Arena, uint32) (uint32, api.Errno)
	slots   int
	model   func(*tree) *tree // nil if the root does not have the form
}

func rotations() []rotation {
	return []rotation{
		{"Left", "P12.1", Left, 2, modelLeft},
		{"Right", "P12.1", Right, 2, modelRight},
		{"DoubleLeft", "P12.2", DoubleLeft, 3, modelDoubleLeft},
		{"DoubleRight", "P12.2", DoubleRight, 3, modelDoubleRight},
	}
}

// tree is a node as the chapter writes it, (left entry right). nil is the empty tree.
type tree struct {
	left  *tree
	entry api.Entry
	right *tree
	slot  uint32 // 0 for a node that must be new
}

// fresh returns a new node with the entry of n.
func fresh(left, n, right *tree) *tree {
	return &tree{left, n.entry, right, 0}
}

// modelLeft turns (x p (y q z)) into ((x p y) q z).
func modelLeft(p *tree) *tree {
	if p == nil || p.right == nil {
		return nil
	}
	q := p.right
	x, y, z := p.left, q.left, q.right
	return fresh(fresh(x, p, y), q, z)
}

// modelRight turns ((x p y) q z) into (x p (y q z)).
func modelRight(q *tree) *tree {
	if q == nil || q.left == nil {
		return nil
	}
	p := q.left
	x, y, z := p.left, p.right, q.right
	return fresh(x, p, fresh(y, q, z))
}

// modelDoubleLeft turns (x p ((y q z) r w)) into ((x p y) q (z r w)).
func modelDoubleLeft(p *tree) *tree {
	if p == nil || p.right == nil || p.right.left == nil {
		return nil
	}
	r, q := p.right, p.right.left
	x, y, z, w := p.left, q.left, q.right, r.right
	return fresh(fresh(x, p, y), q, fresh(z, r, w))
}

// modelDoubleRight turns ((x p (y q z)) r w) into ((x p y) q (z r w)).
func modelDoubleRight(r *tree) *tree {
	if r == nil || r.left == nil || r.left.right == nil {
		return nil
	}
	p, q := r.left, r.left.right
	x, y, z, w := p.left, q.left, q.right, r.right
	return fresh(fresh(x, p, y), q, fresh(z, r, w))
}

// slotOf returns slot i, or a zero slot if there is none.
func slotOf(d api.Dump, i uint32) api.Slot {
	if i == 0 || int64(i) > int64(len(d.Slots)) {
		return api.Slot{}
	}
	return d.Slots[i-1]
}

// view returns the tree at index i, and nothing that is more than depth levels below. A node there cannot be told from a leaf.
func view(d api.Dump, i uint32, depth int) *tree {
	s := slotOf(d, i)
	if !s.Allocated {
		return nil
	}
	n := &tree{entry: api.Entry{Key: s.Node.Key, Value: s.Node.Value}, slot: i}
	if depth > 0 {
		n.left, n.right = view(d, s.Node.Left, depth-1), view(d, s.Node.Right, depth-1)
	}
	return n
}

// listing returns the entries in the order of an in-order traversal.
func listing(d api.Dump, i uint32) []api.Entry {
	s := slotOf(d, i)
	if !s.Allocated {
		return nil
	}
	list := append(listing(d, s.Node.Left), api.Entry{Key: s.Node.Key, Value: s.Node.Value})
	return append(list, listing(d, s.Node.Right)...)
}

// fixture is an arena with all references that callers hold, each as often as it is held.
type fixture struct {
	t     *testing.T
	arena *arena.Arena
	held  []uint32
}

func newFixture(t *testing.T, capacity int) *fixture {
	t.Helper()
	a, err := arena.New(capacity)
	if err != api.OK {
		t.Fatalf("P5.1: New(%d): %d", capacity, err)
	}
	return &fixture{t, a, nil}
}

// make makes a node and keeps the reference to it.
func (f *fixture) make(left uint32, e api.Entry, right uint32) uint32 {
	f.t.Helper()
	i, err := f.arena.Make(e.Key, e.Value, left, right)
	if err != api.OK {
		f.t.Fatalf("P5.2: Make(%v, %d, %d): %d", e, left, right, err)
	}
	f.held = append(f.held, i)
	return i
}

// release gives one reference back.
func (f *fixture) release(i uint32) {
	f.t.Helper()
	at := slices.Index(f.held, i)
	if at < 0 {
		f.t.Fatalf("no reference to %d is held", i)
	}
	f.held = slices.Delete(f.held, at, at+1)
	f.arena.Release(i)
}

// keepOnly gives all references back but one to the root.
func (f *fixture) keepOnly(root uint32) {
	f.t.Helper()
	f.arena.Retain(root)
	for _, i := range f.held {
		f.arena.Release(i)
	}
	f.held = []uint32{root}
}

// fill makes leaves until so many slots are free.
func (f *fixture) fill(free int) {
	f.t.Helper()
	for f.arena.Free() > free {
		f.make(0, api.Entry{Key: math.MinInt64, Value: 1 << 40}, 0)
	}
}

// rotate calls r and compares the result, the error and the effects with the chapter. The fixture holds the reference to the result.
func (f *fixture) rotate(r rotation, root uint32) (uint32, api.Errno) {
	f.t.Helper()
	before := f.arena.Dump()
	want := r.model(view(before, root, 3))
	wantErr := api.OK
	switch {
	case want == nil:
		wantErr = api.ErrInvalid
	case len(before.Free) < r.slots:
		wantErr = api.ErrFull
	}
	got, err := r.call(f.arena, root)
	after := f.arena.Dump()
	if err != wantErr {
		f.t.Fatalf("P12.3: %s(%d), %d free: %d, want %d", r.name, root, len(before.Free), err, wantErr)
	}
	if err != api.OK {
		if got != 0 {
			f.t.Fatalf("P12.3: %s(%d): %d with the error %d", r.name, root, got, err)
		}
		f.compareDumps(before, after)
		return 0, err
	}
	f.held = append(f.held, got)
	if !matches(before, after, got, want, map[uint32]bool{}) {
		f.t.Fatalf("%s: %s(%d): %v, want %v", r.promise, r.name, root, view(after, got, 2), want)
	}
	f.checkEffects(r, before, after)
	f.checkContent(before, after, root, got)
	return got, err
}

func (f *fixture) compareDumps(before, after api.Dump) {
	f.t.Helper()
	if !slices.Equal(before.Slots, after.Slots) || !slices.Equal(before.Free, after.Free) {
		f.t.Fatalf("P12.3: a failed call changed the arena: %v, %v", before, after)
	}
}

// matches reports whether index i is the wanted tree: an index of the original, or a node in a slot that was free and that no other new node has.
func matches(before, after api.Dump, i uint32, want *tree, taken map[uint32]bool) bool {
	if want == nil {
		return i == 0
	}
	if want.slot != 0 {
		return i == want.slot
	}
	s := slotOf(after, i)
	if slotOf(before, i).Allocated || !s.Allocated || taken[i] {
		return false
	}
	taken[i] = true
	return s.Node.Key == want.entry.Key && s.Node.Value == want.entry.Value &&
		matches(before, after, s.Node.Left, want.left, taken) &&
		matches(before, after, s.Node.Right, want.right, taken)
}

// checkEffects holds that there are no more new nodes than the promises name, that the old ones are as they were, and that the caller holds one more reference, to the result.
func (f *fixture) checkEffects(r rotation, before, after api.Dump) {
	f.t.Helper()
	if made := len(before.Free) - len(after.Free); made != r.slots {
		f.t.Fatalf("%s: %s: %d slots", r.promise, r.name, made)
	}
	for n, s := range before.Slots {
		now := after.Slots[n]
		if s.Allocated && (!now.Allocated || now.Node != s.Node || now.Generation != s.Generation) {
			f.t.Fatalf("%s: %s changed slot %d: %v, %v", r.promise, r.name, n+1, s, now)
		}
	}
	if found := audit.Check(after, f.held); len(found) > 0 {
		f.t.Fatalf("%s: %s: the references are wrong: %v", r.promise, r.name, found)
	}
}

// checkContent compares the entries, or only the aggregates if there are many.
func (f *fixture) checkContent(before, after api.Dump, root, got uint32) {
	f.t.Helper()
	x, y := slotOf(before, root).Node, slotOf(after, got).Node
	if x.Size != y.Size || x.Sum != y.Sum || x.Min != y.Min || x.Max != y.Max {
		f.t.Fatalf("P12.4: %v has become %v", x, y)
	}
	if x.Size > 100 {
		return
	}
	if old, list := listing(before, root), listing(after, got); !slices.Equal(old, list) {
		f.t.Fatalf("P12.4: the entries %v have become %v", old, list)
	}
}

// rotateAndBack also holds that releasing the result frees the new nodes, and only these.
func (f *fixture) rotateAndBack(r rotation, root uint32) {
	f.t.Helper()
	before := f.arena.Dump()
	got, err := f.rotate(r, root)
	if err != api.OK {
		return
	}
	f.release(got)
	for n, s := range f.arena.Dump().Slots {
		if old := before.Slots[n]; s.Count != old.Count || s.Node != old.Node {
			f.t.Fatalf("%s: %s(%d): slot %d: %v, after the release %v", r.promise, r.name, root, n+1, old, s)
		}
	}
}

// rotateEverywhere rotates every slot, the empty tree and some numbers that are no index.
func (f *fixture) rotateEverywhere() {
	f.t.Helper()
	for _, r := range rotations() {
		for i := range uint32(f.arena.Capacity() + 2) {
			f.rotateAndBack(r, i)
		}
		for _, i := range []uint32{api.MaxSlots + 1, 1<<16 + 2, 1<<17 + 3, 1 << 31, 1<<31 + 4, math.MaxUint32 - 1, math.MaxUint32} {
			f.rotateAndBack(r, i)
		}
	}
}

// entryLists returns lists of n entries: in the order of search trees, backwards, all the same, and at the ends of the integers.
func entryLists(n int) [][]api.Entry {
	extreme := []int64{math.MinInt64, math.MaxInt64, -1, 0, 1, math.MinInt64 + 1, math.MaxInt64 - 1}
	lists := make([][]api.Entry, 4)
	for i := range n {
		k := int64(i)
		lists[0] = append(lists[0], api.Entry{Key: 10 * k, Value: k*k - 7})
		lists[1] = append(lists[1], api.Entry{Key: -k, Value: 5 - k})
		lists[2] = append(lists[2], api.Entry{Key: 3, Value: 4})
		lists[3] = append(lists[3], api.Entry{Key: extreme[i%7], Value: extreme[(i+3)%7]})
	}
	return lists
}

// shapes runs visit with the root of each tree with these entries, balanced or not. Afterwards, all slots are free again.
func (f *fixture) shapes(entries []api.Entry, visit func(root uint32)) {
	f.t.Helper()
	if len(entries) == 0 {
		visit(0)
		return
	}
	for at, e := range entries {
		f.shapes(entries[:at], func(left uint32) {
			f.shapes(entries[at+1:], func(right uint32) {
				root := f.make(left, e, right)
				visit(root)
				f.release(root)
			})
		})
	}
}

// TestAllShapes has each tree of up to seven nodes, and each of its subtrees. In such a tree, all of x, y, z and w can be empty or not.
func TestAllShapes(t *testing.T) {
	for n := range 8 {
		for _, entries := range entryLists(n) {
			f := newFixture(t, n+3)
			f.shapes(entries, func(uint32) { f.rotateEverywhere() })
		}
	}
}

// TestAllArenas has each arena of up to four nodes whose children are any earlier nodes, so that subtrees are shared and x, y, z and w can be the same.
func TestAllArenas(t *testing.T) {
	const most = 4
	for _, entries := range entryLists(most) {
		f := newFixture(t, most+3)
		var extend func(n uint32)
		extend = func(n uint32) {
			f.rotateEverywhere()
			if n == most {
				return
			}
			for left := range n + 1 {
				for right := range n + 1 {
					i := f.make(left, entries[n], right)
					extend(n + 1)
					f.release(i)
				}
			}
		}
		extend(0)
	}
}

// leaves makes the leaves x, y, z and w, and returns the entries p, q and r that are between them in an in-order traversal.
func leaves(f *fixture) (x, y, z, w uint32, p, q, r api.Entry) {
	entries := entryLists(7)[0]
	x, y = f.make(0, entries[0], 0), f.make(0, entries[2], 0)
	z, w = f.make(0, entries[4], 0), f.make(0, entries[6], 0)
	return x, y, z, w, entries[1], entries[3], entries[5]
}

// expect holds that index i has this node, and returns its children.
func (f *fixture) expect(promise string, i uint32, e api.Entry) (uint32, uint32) {
	f.t.Helper()
	n, ok := f.arena.Node(i)
	if !ok || n.Key != e.Key || n.Value != e.Value {
		f.t.Fatalf("%s: slot %d: %v, %t, want %v", promise, i, n, ok, e)
	}
	return n.Left, n.Right
}

// TestSingleByHand follows P12.1 without the model.
func TestSingleByHand(t *testing.T) {
	f := newFixture(t, 12)
	x, y, z, _, p, q, _ := leaves(f)
	lower := f.make(y, q, z)
	root := f.make(x, p, lower)
	result, err := Left(f.arena, root)
	left, right := f.expect("P12.1", result, q)
	first, second := f.expect("P12.1", left, p)
	if err != api.OK || first != x || second != y || right != z || left == lower || result == root {
		t.Errorf("P12.1: Left: ((%d p %d) q %d), %d", first, second, right, err)
	}
	if f.arena.Count(result) != 1 || f.arena.Count(left) != 1 {
		t.Errorf("P12.1: Left: the counts are %d and %d", f.arena.Count(result), f.arena.Count(left))
	}
	again, err := Right(f.arena, result)
	outer, inner := f.expect("P12.1", again, p)
	first, second = f.expect("P12.1", inner, q)
	if err != api.OK || outer != x || first != y || second != z || inner == lower || again == root {
		t.Errorf("P12.1: Right: (%d p (%d q %d)), %d", outer, first, second, err)
	}
	if f.arena.Count(again) != 1 || f.arena.Count(inner) != 1 {
		t.Errorf("P12.1: Right: the counts are %d and %d", f.arena.Count(again), f.arena.Count(inner))
	}
}

// TestDoubleByHand follows P12.2 without the model.
func TestDoubleByHand(t *testing.T) {
	f := newFixture(t, 16)
	x, y, z, w, p, q, r := leaves(f)
	middle := f.make(y, q, z)
	forLeft := f.make(x, p, f.make(middle, r, w))
	forRight := f.make(f.make(x, p, middle), r, w)
	for _, c := range []struct {
		root uint32
		call func(*arena.Arena, uint32) (uint32, api.Errno)
	}{{forLeft, DoubleLeft}, {forRight, DoubleRight}} {
		result, err := c.call(f.arena, c.root)
		left, right := f.expect("P12.2", result, q)
		first, second := f.expect("P12.2", left, p)
		third, fourth := f.expect("P12.2", right, r)
		if err != api.OK || first != x || second != y || third != z || fourth != w {
			t.Errorf("P12.2: root %d: ((%d p %d) q (%d r %d)), %d", c.root, first, second, third, fourth, err)
		}
		for _, i := range []uint32{result, left, right} {
			if slices.Contains(f.held, i) || f.arena.Count(i) != 1 {
				t.Errorf("P12.2: root %d: slot %d is not new, or has the count %d", c.root, i, f.arena.Count(i))
			}
		}
	}
}

func TestExample(t *testing.T) {
	f := newFixture(t, 4)
	one, two := api.Entry{Key: 1, Value: 10}, api.Entry{Key: 2, Value: 20}
	root := f.make(f.make(0, one, 0), two, 0)
	got, err := Right(f.arena, root)
	left, right := f.expect("P12.1", got, one)
	below, beside := f.expect("P12.1", right, two)
	if err != api.OK || left != 0 || below != 0 || beside != 0 {
		t.Errorf("P12.1: Right: (%d 1 (%d 2 %d)), %d", left, below, beside, err)
	}
	if got, err := Left(f.arena, root); got != 0 || err != api.ErrInvalid {
		t.Errorf("P12.3: Left: %d, %d", got, err)
	}
}

// forms makes a root that has the forms of all functions: both sides of it have children on both sides.
func forms(f *fixture) uint32 {
	entries := entryLists(7)[0]
	l, r := f.make(0, entries[0], 0), f.make(0, entries[2], 0)
	left := f.make(l, entries[1], r)
	l, r = f.make(0, entries[4], 0), f.make(0, entries[6], 0)
	right := f.make(l, entries[5], r)
	root := f.make(left, entries[3], right)
	f.keepOnly(root)
	return root
}

// TestFreeSlots has all numbers of free slots around those that are required, of slots that were never used and of released ones.
func TestFreeSlots(t *testing.T) {
	for _, r := range rotations() {
		for free := range 6 {
			for _, used := range []bool{false, true} {
				f := newFixture(t, 20)
				if used {
					f.fill(0)
					for len(f.held) > 0 {
						f.release(f.held[len(f.held)/2])
					}
				}
				root := forms(f)
				f.fill(free)
				_, err := f.rotate(r, root)
				if (err == api.OK) != (free >= r.slots) {
					t.Errorf("P12.3: %s with %d free slots: %d", r.name, free, err)
				}
			}
		}
	}
}

// TestInvalidComesFirst has roots without the form, with every number of free slots.
func TestInvalidComesFirst(t *testing.T) {
	one, two, three := api.Entry{Key: 1}, api.Entry{Key: 2}, api.Entry{Key: 3}
	for free := range 4 {
		f := newFixture(t, 20)
		leaf := f.make(0, one, 0)
		toLeft, toRight := f.make(leaf, two, 0), f.make(0, two, leaf)
		// None of these has the grandchild that a double rotation moves.
		outerLeft, outerRight := f.make(toLeft, three, 0), f.make(0, three, toRight)
		f.fill(free)
		none := []uint32{0, 21, 22, math.MaxUint32}
		if free > 0 {
			none = append(none, 20) // a slot that is free
		}
		for _, c := range []struct {
			call  func(*arena.Arena, uint32) (uint32, api.Errno)
			roots []uint32
		}{
			{Left, []uint32{leaf, toLeft, outerLeft}},
			{Right, []uint32{leaf, toRight, outerRight}},
			{DoubleLeft, []uint32{leaf, toLeft, toRight, outerLeft, outerRight}},
			{DoubleRight, []uint32{leaf, toLeft, toRight, outerLeft, outerRight}},
		} {
			for _, root := range append(c.roots, none...) {
				before := f.arena.Dump()
				if got, err := c.call(f.arena, root); got != 0 || err != api.ErrInvalid {
					t.Errorf("P12.3: root %d, %d free: %d, %d", root, free, got, err)
				}
				f.compareDumps(before, f.arena.Dump())
			}
		}
	}
}

// TestReleasedRoot holds that a slot that was released is no root any more, until it is allocated again.
func TestReleasedRoot(t *testing.T) {
	for _, r := range rotations() {
		f := newFixture(t, 12)
		root := forms(f)
		f.release(root)
		if _, err := f.rotate(r, root); err != api.ErrInvalid {
			t.Errorf("P12.3: %s of a released root: %d", r.name, err)
		}
		if _, err := f.rotate(r, forms(f)); err != api.OK {
			t.Errorf("P12.3: %s of a new root: %d", r.name, err)
		}
	}
}

// TestResultStays holds that the result does not need the original.
func TestResultStays(t *testing.T) {
	for _, r := range rotations() {
		f := newFixture(t, 12)
		root := forms(f)
		list := listing(f.arena.Dump(), root)
		got, _ := f.rotate(r, root)
		f.release(root)
		f.fill(0)
		d := f.arena.Dump()
		if now := listing(d, got); !slices.Equal(now, list) || len(audit.Check(d, f.held)) > 0 {
			t.Errorf("P12.4: %s: %v, want %v", r.name, now, list)
		}
	}
}

// TestManyReferences holds that the callers' references to the nodes of the original stay.
func TestManyReferences(t *testing.T) {
	for _, r := range rotations() {
		f := newFixture(t, 20)
		root := forms(f)
		for i := range uint32(root + 1) {
			for range i {
				f.arena.Retain(i)
				f.held = append(f.held, i)
			}
		}
		for range 4 {
			f.rotate(r, root)
		}
	}
}

// TestMaxSize has a tree of 2^31 - 1 entries, in which each node is both children of the next one.
func TestMaxSize(t *testing.T) {
	f := newFixture(t, 36)
	root := uint32(0)
	for k := range int64(31) {
		root = f.make(root, api.Entry{Key: k, Value: math.MaxInt64 - k}, root)
	}
	if f.arena.Size(root) != api.MaxSize {
		t.Fatalf("P5.2: Size %d", f.arena.Size(root))
	}
	f.rotateEverywhere()
}

// TestChains has trees as high as an arena has slots.
func TestChains(t *testing.T) {
	const nodes = api.MaxSlots - 3
	turns := []func(k int64) bool{
		func(int64) bool { return true },
		func(int64) bool { return false },
		func(k int64) bool { return k%2 == 0 },
	}
	for number, toLeft := range turns {
		f := newFixture(t, api.MaxSlots)
		root := uint32(0)
		for k := range int64(nodes) {
			left, right := root, uint32(0)
			if !toLeft(k) {
				left, right = 0, root
			}
			root, _ = f.arena.Make(k, -k, left, right)
			f.arena.Release(left)
			f.arena.Release(right)
		}
		f.held = []uint32{root}
		done := 0
		for _, r := range rotations() {
			got, err := f.rotate(r, root)
			if err == api.OK {
				done++
				f.release(got)
			}
		}
		if want := []int{1, 1, 2}[number]; done != want {
			t.Errorf("P12.3: chain %d: %d rotations, want %d", number, done, want)
		}
	}
}

// generator returns a function whose results are from 0 to before n and follow no short rule.
func generator(seed uint64) func(n int) int {
	x := seed
	return func(n int) int {
		x = x*6364136223846793005 + 1442695040888963407
		return int(x>>33) % n
	}
}

// TestLongRuns mixes rotations with other calls, so that results are rotated again, slots are used again, and the arenas are often full.
func TestLongRuns(t *testing.T) {
	for _, capacity := range []int{4, 9, 25} {
		next := generator(uint64(capacity))
		f := newFixture(t, capacity)
		index := func() uint32 {
			if len(f.held) == 0 || next(5) == 0 {
				return 0
			}
			return f.held[next(len(f.held))]
		}
		done := map[string]int{}
		for round := range 10000 {
			switch kind := next(10); {
			case kind < 3 && f.arena.Free() > 0:
				left, right := index(), index()
				// Trees that grow without end would have too many entries to be compared.
				if f.arena.Size(left)+f.arena.Size(right) < 60 {
					f.make(left, api.Entry{Key: int64(round), Value: int64(next(100) - 50)}, right)
				}
			case kind < 6 && len(f.held) > 0:
				f.release(f.held[next(len(f.held))])
			default:
				r := rotations()[next(4)]
				if _, err := f.rotate(r, uint32(next(capacity+2))); err == api.OK {
					done[r.name]++
				}
			}
		}
		for _, r := range rotations() {
			if capacity > 4 && done[r.name] < 20 {
				t.Errorf("%s was done only %d times with %d slots", r.name, done[r.name], capacity)
			}
		}
	}
}

// TestSameCalls holds that the same calls on equal arenas have the same results, whatever happens in another arena.
func TestSameCalls(t *testing.T) {
	run := func(other *fixture) api.Dump {
		f := newFixture(t, 30)
		root := forms(f)
		for round := range 10 {
			f.rotate(rotations()[round%4], root)
			if other != nil {
				other.rotate(rotations()[round%3], 7)
			}
			if round%3 == 2 {
				f.release(f.held[1])
			}
		}
		return f.arena.Dump()
	}
	other := newFixture(t, 50)
	forms(other)
	x, y := run(nil), run(other)
	if !slices.Equal(x.Slots, y.Slots) || !slices.Equal(x.Free, y.Free) {
		t.Errorf("two runs differ: %v, %v", x, y)
	}
}

// counts returns the reference counts of all slots.
func counts(a *arena.Arena) []int {
	var list []int
	for _, s := range a.Dump().Slots {
		list = append(list, s.Count)
	}
	return list
}

// TestReleasedTooOften has callers that release references that they do not hold, so that children are missing or nodes are in circles. The functions return nevertheless, and a failed one leaves all counts as they were.
func TestReleasedTooOften(t *testing.T) {
	const capacity = 7
	next := generator(1)
	a := newFixture(t, capacity).arena
	for range 60000 {
		if next(2) == 0 {
			a.Make(int64(next(9)), 0, uint32(next(capacity+2)), uint32(next(capacity+2)))
		} else {
			a.Release(uint32(next(capacity + 2)))
		}
		r := rotations()[next(4)]
		before := counts(a)
		got, err := r.call(a, uint32(next(capacity+2)))
		if (got != 0) != (err == api.OK) {
			t.Fatalf("%s: %d, %d", r.name, got, err)
		}
		if err != api.OK && !slices.Equal(counts(a), before) {
			t.Fatalf("%s: %d: the counts %v have become %v", r.name, err, before, counts(a))
		}
		a.Release(got)
	}
}

// TestOutdatedSizes has subtrees that were released too often and whose slots have larger trees now, so that no arena can have the result.
func TestOutdatedSizes(t *testing.T) {
	f := newFixture(t, 40)
	half := uint32(0)
	for k := range int64(29) {
		half = f.make(half, api.Entry{Key: k}, half)
	}
	x, q, w := f.make(0, api.Entry{}, 0), f.make(0, api.Entry{}, 0), f.make(0, api.Entry{}, 0)
	forLeft := f.make(x, api.Entry{}, f.make(q, api.Entry{}, w))
	forRight := f.make(f.make(x, api.Entry{}, q), api.Entry{}, w)
	for _, i := range []uint32{w, x} {
		for f.arena.Count(i) > 0 {
			f.arena.Release(i)
		}
	}
	if f.make(half, api.Entry{}, half) != x || f.make(half, api.Entry{}, half) != w {
		t.Fatalf("P3.2: the slots %d and %d are not used again", x, w)
	}
	before := counts(f.arena)
	for _, call := range []func() (uint32, api.Errno){
		func() (uint32, api.Errno) { return DoubleLeft(f.arena, forLeft) },
		func() (uint32, api.Errno) { return DoubleRight(f.arena, forRight) },
	} {
		if got, err := call(); got != 0 || err != api.ErrInvalid || !slices.Equal(counts(f.arena), before) {
			t.Errorf("%d, %d: the counts %v have become %v", got, err, before, counts(f.arena))
		}
	}
}
