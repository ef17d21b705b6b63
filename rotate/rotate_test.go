package rotate

import (
	"math"
	"slices"
	"testing"

	"versionmap/api"
	"versionmap/arena"
	"versionmap/audit"
	"versionmap/treetest"
)

// rotation is a function of the package with its wording.
type rotation struct {
	name    string
	promise string
	call    func(*arena.Arena, uint32) (uint32, api.Errno)
	slots   int
	model   func(*tree) *tree // nil if the root does not have the form
}

func rotations() []rotation {
	return []rotation{
		{"Left", "P12.1", Left, 2, modelLeft},
		{"Right", "P12.1", Right, 2, modelRight},
		{"DoubleLeft", "P12.2", DoubleLeft, 3, modelDoubleLeft},
		{"DoubleRight", "P12.2", DoubleRight, 3, modelDoubleRight},
	}
}

// tree is a node as the chapter writes it, (left entry right). nil is the empty tree.
type tree struct {
	left  *tree
	entry api.Entry
	right *tree
	slot  uint32 // 0 for a node that must be new
}

// fresh returns a new node with the entry of n.
func fresh(left, n, right *tree) *tree {
	return &tree{left, n.entry, right, 0}
}

// modelLeft turns (x p (y q z)) into ((x p y) q z).
func modelLeft(p *tree) *tree {
	if p == nil || p.right == nil {
		return nil
	}
	q := p.right
	x, y, z := p.left, q.left, q.right
	return fresh(fresh(x, p, y), q, z)
}

// modelRight turns ((x p y) q z) into (x p (y q z)).
func modelRight(q *tree) *tree {
	if q == nil || q.left == nil {
		return nil
	}
	p := q.left
	x, y, z := p.left, p.right, q.right
	return fresh(x, p, fresh(y, q, z))
}

// modelDoubleLeft turns (x p ((y q z) r w)) into ((x p y) q (z r w)).
func modelDoubleLeft(p *tree) *tree {
	if p == nil || p.right == nil || p.right.left == nil {
		return nil
	}
	r, q := p.right, p.right.left
	x, y, z, w := p.left, q.left, q.right, r.right
	return fresh(fresh(x, p, y), q, fresh(z, r, w))
}

// modelDoubleRight turns ((x p (y q z)) r w) into ((x p y) q (z r w)).
func modelDoubleRight(r *tree) *tree {
	if r == nil || r.left == nil || r.left.right == nil {
		return nil
	}
	p, q := r.left, r.left.right
	x, y, z, w := p.left, q.left, q.right, r.right
	return fresh(fresh(x, p, y), q, fresh(z, r, w))
}

// slotOf returns slot i, or a zero slot if there is none.
func slotOf(d api.Dump, i uint32) api.Slot {
	if i == 0 || int64(i) > int64(len(d.Slots)) {
		return api.Slot{}
	}
	return d.Slots[i-1]
}

// view returns the tree at index i, and nothing that is more than depth levels below. A node there cannot be told from a leaf.
func view(d api.Dump, i uint32, depth int) *tree {
	s := slotOf(d, i)
	if !s.Allocated {
		return nil
	}
	n := &tree{entry: api.Entry{Key: s.Node.Key, Value: s.Node.Value}, slot: i}
	if depth > 0 {
		n.left, n.right = view(d, s.Node.Left, depth-1), view(d, s.Node.Right, depth-1)
	}
	return n
}

// listing returns the entries in the order of an in-order traversal.
func listing(d api.Dump, i uint32) []api.Entry {
	s := slotOf(d, i)
	if !s.Allocated {
		return nil
	}
	list := append(listing(d, s.Node.Left), api.Entry{Key: s.Node.Key, Value: s.Node.Value})
	return append(list, listing(d, s.Node.Right)...)
}

// fixture calls the functions in an arena and compares them with the chapter.
type fixture struct {
	*treetest.Fixture
}

func newFixture(t *testing.T, capacity int) fixture {
	t.Helper()
	return fixture{treetest.New(t, capacity)}
}

// keepOnly gives all references back but one to the root.
func (f fixture) keepOnly(root uint32) {
	f.T.Helper()
	f.Arena.Retain(root)
	for _, i := range f.Held {
		f.Arena.Release(i)
	}
	f.Held = []uint32{root}
}

// fill makes leaves until so many slots are free.
func (f fixture) fill(free int) {
	f.T.Helper()
	for f.Arena.Free() > free {
		f.Make(0, api.Entry{Key: math.MinInt64, Value: 1 << 40}, 0)
	}
}

// rotate calls r and compares the result, the error and the effects with the chapter. The fixture holds the reference to the result.
func (f fixture) rotate(r rotation, root uint32) (uint32, api.Errno) {
	f.T.Helper()
	before := f.Arena.Dump()
	want := r.model(view(before, root, 3))
	wantErr := api.OK
	switch {
	case want == nil:
		wantErr = api.ErrInvalid
	case len(before.Free) < r.slots:
		wantErr = api.ErrFull
	}
	got, err := r.call(f.Arena, root)
	after := f.Arena.Dump()
	if err != wantErr {
		f.T.Fatalf("P12.3: %s(%d), %d free: %d, want %d", r.name, root, len(before.Free), err, wantErr)
	}
	if err != api.OK {
		if got != 0 {
			f.T.Fatalf("P12.3: %s(%d): %d with the error %d", r.name, root, got, err)
		}
		f.compareDumps(before, after)
		return 0, err
	}
	f.Held = append(f.Held, got)
	if !matches(before, after, got, want, map[uint32]bool{}) {
		f.T.Fatalf("%s: %s(%d): %v, want %v", r.promise, r.name, root, view(after, got, 2), want)
	}
	f.checkEffects(r, before, after)
	f.checkContent(before, after, root, got)
	return got, err
}

func (f fixture) compareDumps(before, after api.Dump) {
	f.T.Helper()
	if !slices.Equal(before.Slots, after.Slots) || !slices.Equal(before.Free, after.Free) {
		f.T.Fatalf("P12.3: a failed call changed the arena: %v, %v", before, after)
	}
}

// matches reports whether index i is the wanted tree: an index of the original, or a node in a slot that was free and that no other new node has.
func matches(before, after api.Dump, i uint32, want *tree, taken map[uint32]bool) bool {
	if want == nil {
		return i == 0
	}
	if want.slot != 0 {
		return i == want.slot
	}
	s := slotOf(after, i)
	if slotOf(before, i).Allocated || !s.Allocated || taken[i] {
		return false
	}
	taken[i] = true
	return s.Node.Key == want.entry.Key && s.Node.Value == want.entry.Value &&
		matches(before, after, s.Node.Left, want.left, taken) &&
		matches(before, after, s.Node.Right, want.right, taken)
}

// checkEffects holds that there are no more new nodes than the promises name, that the old ones are as they were, and that the caller holds one more reference, to the result.
func (f fixture) checkEffects(r rotation, before, after api.Dump) {
	f.T.Helper()
	if made := len(before.Free) - len(after.Free); made != r.slots {
		f.T.Fatalf("%s: %s: %d slots", r.promise, r.name, made)
	}
	for n, s := range before.Slots {
		now := after.Slots[n]
		if s.Allocated && (!now.Allocated || now.Node != s.Node || now.Generation != s.Generation) {
			f.T.Fatalf("%s: %s changed slot %d: %v, %v", r.promise, r.name, n+1, s, now)
		}
	}
	if found := audit.Check(after, f.Held); len(found) > 0 {
		f.T.Fatalf("%s: %s: the references are wrong: %v", r.promise, r.name, found)
	}
}

// checkContent compares the entries, or only the aggregates if there are many.
func (f fixture) checkContent(before, after api.Dump, root, got uint32) {
	f.T.Helper()
	x, y := slotOf(before, root).Node, slotOf(after, got).Node
	if x.Size != y.Size || x.Sum != y.Sum || x.Min != y.Min || x.Max != y.Max {
		f.T.Fatalf("P12.4: %v has become %v", x, y)
	}
	if x.Size > 100 {
		return
	}
	if old, list := listing(before, root), listing(after, got); !slices.Equal(old, list) {
		f.T.Fatalf("P12.4: the entries %v have become %v", old, list)
	}
}

// rotateAndBack also holds that releasing the result frees the new nodes, and only these.
func (f fixture) rotateAndBack(r rotation, root uint32) {
	f.T.Helper()
	before := f.Arena.Dump()
	got, err := f.rotate(r, root)
	if err != api.OK {
		return
	}
	f.Release(got)
	for n, s := range f.Arena.Dump().Slots {
		if old := before.Slots[n]; s.Count != old.Count || s.Node != old.Node {
			f.T.Fatalf("%s: %s(%d): slot %d: %v, after the release %v", r.promise, r.name, root, n+1, old, s)
		}
	}
}

// rotateEverywhere rotates every slot, the empty tree and some numbers that are no index.
func (f fixture) rotateEverywhere() {
	f.T.Helper()
	for _, r := range rotations() {
		for i := range uint32(f.Arena.Capacity() + 2) {
			f.rotateAndBack(r, i)
		}
		for _, i := range []uint32{api.MaxSlots + 1, 1<<16 + 2, 1<<17 + 3, 1 << 31, 1<<31 + 4, math.MaxUint32 - 1, math.MaxUint32} {
			f.rotateAndBack(r, i)
		}
	}
}

// entryLists returns lists of n entries: in the order of search trees, backwards, all the same, and at the ends of the integers.
func entryLists(n int) [][]api.Entry {
	extreme := []int64{math.MinInt64, math.MaxInt64, -1, 0, 1, math.MinInt64 + 1, math.MaxInt64 - 1}
	lists := make([][]api.Entry, 4)
	for i := range n {
		k := int64(i)
		lists[0] = append(lists[0], api.Entry{Key: 10 * k, Value: k*k - 7})
		lists[1] = append(lists[1], api.Entry{Key: -k, Value: 5 - k})
		lists[2] = append(lists[2], api.Entry{Key: 3, Value: 4})
		lists[3] = append(lists[3], api.Entry{Key: extreme[i%7], Value: extreme[(i+3)%7]})
	}
	return lists
}

// shapes runs visit with the root of each tree with these entries, balanced or not. Afterwards, all slots are free again.
func (f fixture) shapes(entries []api.Entry, visit func(root uint32)) {
	f.T.Helper()
	if len(entries) == 0 {
		visit(0)
		return
	}
	for at, e := range entries {
		f.shapes(entries[:at], func(left uint32) {
			f.shapes(entries[at+1:], func(right uint32) {
				root := f.Make(left, e, right)
				visit(root)
				f.Release(root)
			})
		})
	}
}

// TestAllShapes has each tree of up to seven nodes, and each of its subtrees. In such a tree, all of x, y, z and w can be empty or not.
func TestAllShapes(t *testing.T) {
	for n := range 8 {
		for _, entries := range entryLists(n) {
			f := newFixture(t, n+3)
			f.shapes(entries, func(uint32) { f.rotateEverywhere() })
		}
	}
}

// TestAllArenas has each arena of up to four nodes whose children are any earlier nodes, so that subtrees are shared and x, y, z and w can be the same.
func TestAllArenas(t *testing.T) {
	const most = 4
	for _, entries := range entryLists(most) {
		f := newFixture(t, most+3)
		var extend func(n uint32)
		extend = func(n uint32) {
			f.rotateEverywhere()
			if n == most {
				return
			}
			for left := range n + 1 {
				for right := range n + 1 {
					i := f.Make(left, entries[n], right)
					extend(n + 1)
					f.Release(i)
				}
			}
		}
		extend(0)
	}
}

// leaves makes the leaves x, y, z and w, and returns the entries p, q and r that are between them in an in-order traversal.
func leaves(f fixture) (x, y, z, w uint32, p, q, r api.Entry) {
	entries := entryLists(7)[0]
	x, y = f.Make(0, entries[0], 0), f.Make(0, entries[2], 0)
	z, w = f.Make(0, entries[4], 0), f.Make(0, entries[6], 0)
	return x, y, z, w, entries[1], entries[3], entries[5]
}

// expect holds that index i has this node, and returns its children.
func (f fixture) expect(promise string, i uint32, e api.Entry) (uint32, uint32) {
	f.T.Helper()
	n, ok := f.Arena.Node(i)
	if !ok || n.Key != e.Key || n.Value != e.Value {
		f.T.Fatalf("%s: slot %d: %v, %t, want %v", promise, i, n, ok, e)
	}
	return n.Left, n.Right
}

// TestSingleByHand follows P12.1 without the model.
func TestSingleByHand(t *testing.T) {
	f := newFixture(t, 12)
	x, y, z, _, p, q, _ := leaves(f)
	lower := f.Make(y, q, z)
	root := f.Make(x, p, lower)
	result, err := Left(f.Arena, root)
	left, right := f.expect("P12.1", result, q)
	first, second := f.expect("P12.1", left, p)
	if err != api.OK || first != x || second != y || right != z || left == lower || result == root {
		t.Errorf("P12.1: Left: ((%d p %d) q %d), %d", first, second, right, err)
	}
	if f.Arena.Count(result) != 1 || f.Arena.Count(left) != 1 {
		t.Errorf("P12.1: Left: the counts are %d and %d", f.Arena.Count(result), f.Arena.Count(left))
	}
	again, err := Right(f.Arena, result)
	outer, inner := f.expect("P12.1", again, p)
	first, second = f.expect("P12.1", inner, q)
	if err != api.OK || outer != x || first != y || second != z || inner == lower || again == root {
		t.Errorf("P12.1: Right: (%d p (%d q %d)), %d", outer, first, second, err)
	}
	if f.Arena.Count(again) != 1 || f.Arena.Count(inner) != 1 {
		t.Errorf("P12.1: Right: the counts are %d and %d", f.Arena.Count(again), f.Arena.Count(inner))
	}
}

// TestDoubleByHand follows P12.2 without the model.
func TestDoubleByHand(t *testing.T) {
	f := newFixture(t, 16)
	x, y, z, w, p, q, r := leaves(f)
	middle := f.Make(y, q, z)
	forLeft := f.Make(x, p, f.Make(middle, r, w))
	forRight := f.Make(f.Make(x, p, middle), r, w)
	for _, c := range []struct {
		root uint32
		call func(*arena.Arena, uint32) (uint32, api.Errno)
	}{{forLeft, DoubleLeft}, {forRight, DoubleRight}} {
		result, err := c.call(f.Arena, c.root)
		left, right := f.expect("P12.2", result, q)
		first, second := f.expect("P12.2", left, p)
		third, fourth := f.expect("P12.2", right, r)
		if err != api.OK || first != x || second != y || third != z || fourth != w {
			t.Errorf("P12.2: root %d: ((%d p %d) q (%d r %d)), %d", c.root, first, second, third, fourth, err)
		}
		for _, i := range []uint32{result, left, right} {
			if slices.Contains(f.Held, i) || f.Arena.Count(i) != 1 {
				t.Errorf("P12.2: root %d: slot %d is not new, or has the count %d", c.root, i, f.Arena.Count(i))
			}
		}
	}
}

func TestExample(t *testing.T) {
	f := newFixture(t, 4)
	one, two := api.Entry{Key: 1, Value: 10}, api.Entry{Key: 2, Value: 20}
	root := f.Make(f.Make(0, one, 0), two, 0)
	got, err := Right(f.Arena, root)
	left, right := f.expect("P12.1", got, one)
	below, beside := f.expect("P12.1", right, two)
	if err != api.OK || left != 0 || below != 0 || beside != 0 {
		t.Errorf("P12.1: Right: (%d 1 (%d 2 %d)), %d", left, below, beside, err)
	}
	if got, err := Left(f.Arena, root); got != 0 || err != api.ErrInvalid {
		t.Errorf("P12.3: Left: %d, %d", got, err)
	}
}

// forms makes a root that has the forms of all functions: both sides of it have children on both sides.
func forms(f fixture) uint32 {
	entries := entryLists(7)[0]
	l, r := f.Make(0, entries[0], 0), f.Make(0, entries[2], 0)
	left := f.Make(l, entries[1], r)
	l, r = f.Make(0, entries[4], 0), f.Make(0, entries[6], 0)
	right := f.Make(l, entries[5], r)
	root := f.Make(left, entries[3], right)
	f.keepOnly(root)
	return root
}

// TestFreeSlots has all numbers of free slots around those that are required, of slots that were never used and of released ones.
func TestFreeSlots(t *testing.T) {
	for _, r := range rotations() {
		for free := range 6 {
			for _, used := range []bool{false, true} {
				f := newFixture(t, 20)
				if used {
					f.fill(0)
					for len(f.Held) > 0 {
						f.Release(f.Held[len(f.Held)/2])
					}
				}
				root := forms(f)
				f.fill(free)
				_, err := f.rotate(r, root)
				if (err == api.OK) != (free >= r.slots) {
					t.Errorf("P12.3: %s with %d free slots: %d", r.name, free, err)
				}
			}
		}
	}
}

// TestInvalidComesFirst has roots without the form, with every number of free slots.
func TestInvalidComesFirst(t *testing.T) {
	one, two, three := api.Entry{Key: 1}, api.Entry{Key: 2}, api.Entry{Key: 3}
	for free := range 4 {
		f := newFixture(t, 20)
		leaf := f.Make(0, one, 0)
		toLeft, toRight := f.Make(leaf, two, 0), f.Make(0, two, leaf)
		// None of these has the grandchild that a double rotation moves.
		outerLeft, outerRight := f.Make(toLeft, three, 0), f.Make(0, three, toRight)
		f.fill(free)
		none := []uint32{0, 21, 22, math.MaxUint32}
		if free > 0 {
			none = append(none, 20) // a slot that is free
		}
		for _, c := range []struct {
			call  func(*arena.Arena, uint32) (uint32, api.Errno)
			roots []uint32
		}{
			{Left, []uint32{leaf, toLeft, outerLeft}},
			{Right, []uint32{leaf, toRight, outerRight}},
			{DoubleLeft, []uint32{leaf, toLeft, toRight, outerLeft, outerRight}},
			{DoubleRight, []uint32{leaf, toLeft, toRight, outerLeft, outerRight}},
		} {
			for _, root := range append(c.roots, none...) {
				before := f.Arena.Dump()
				if got, err := c.call(f.Arena, root); got != 0 || err != api.ErrInvalid {
					t.Errorf("P12.3: root %d, %d free: %d, %d", root, free, got, err)
				}
				f.compareDumps(before, f.Arena.Dump())
			}
		}
	}
}

// TestReleasedRoot holds that a slot that was released is no root any more, until it is allocated again.
func TestReleasedRoot(t *testing.T) {
	for _, r := range rotations() {
		f := newFixture(t, 12)
		root := forms(f)
		f.Release(root)
		if _, err := f.rotate(r, root); err != api.ErrInvalid {
			t.Errorf("P12.3: %s of a released root: %d", r.name, err)
		}
		if _, err := f.rotate(r, forms(f)); err != api.OK {
			t.Errorf("P12.3: %s of a new root: %d", r.name, err)
		}
	}
}

// TestResultStays holds that the result does not need the original.
func TestResultStays(t *testing.T) {
	for _, r := range rotations() {
		f := newFixture(t, 12)
		root := forms(f)
		list := listing(f.Arena.Dump(), root)
		got, _ := f.rotate(r, root)
		f.Release(root)
		f.fill(0)
		d := f.Arena.Dump()
		if now := listing(d, got); !slices.Equal(now, list) || len(audit.Check(d, f.Held)) > 0 {
			t.Errorf("P12.4: %s: %v, want %v", r.name, now, list)
		}
	}
}

// TestManyReferences holds that the callers' references to the nodes of the original stay.
func TestManyReferences(t *testing.T) {
	for _, r := range rotations() {
		f := newFixture(t, 20)
		root := forms(f)
		for i := range uint32(root + 1) {
			for range i {
				f.Arena.Retain(i)
				f.Held = append(f.Held, i)
			}
		}
		for range 4 {
			f.rotate(r, root)
		}
	}
}

// TestMaxSize has a tree of 2^31 - 1 entries, in which each node is both children of the next one.
func TestMaxSize(t *testing.T) {
	f := newFixture(t, 36)
	root := uint32(0)
	for k := range int64(31) {
		root = f.Make(root, api.Entry{Key: k, Value: math.MaxInt64 - k}, root)
	}
	if f.Arena.Size(root) != api.MaxSize {
		t.Fatalf("P5.2: Size %d", f.Arena.Size(root))
	}
	f.rotateEverywhere()
}

// TestChains has trees as high as an arena has slots.
func TestChains(t *testing.T) {
	const nodes = api.MaxSlots - 3
	turns := []func(k int64) bool{
		func(int64) bool { return true },
		func(int64) bool { return false },
		func(k int64) bool { return k%2 == 0 },
	}
	for number, toLeft := range turns {
		f := newFixture(t, api.MaxSlots)
		root := uint32(0)
		for k := range int64(nodes) {
			left, right := root, uint32(0)
			if !toLeft(k) {
				left, right = 0, root
			}
			root, _ = f.Arena.Make(k, -k, left, right)
			f.Arena.Release(left)
			f.Arena.Release(right)
		}
		f.Held = []uint32{root}
		done := 0
		for _, r := range rotations() {
			got, err := f.rotate(r, root)
			if err == api.OK {
				done++
				f.Release(got)
			}
		}
		if want := []int{1, 1, 2}[number]; done != want {
			t.Errorf("P12.3: chain %d: %d rotations, want %d", number, done, want)
		}
	}
}

// TestLongRuns mixes rotations with other calls, so that results are rotated again, slots are used again, and the arenas are often full.
func TestLongRuns(t *testing.T) {
	for _, capacity := range []int{4, 9, 25} {
		next := treetest.Generator(uint64(capacity))
		f := newFixture(t, capacity)
		index := func() uint32 {
			if len(f.Held) == 0 || next(5) == 0 {
				return 0
			}
			return f.Held[next(len(f.Held))]
		}
		done := map[string]int{}
		for round := range 10000 {
			switch kind := next(10); {
			case kind < 3 && f.Arena.Free() > 0:
				left, right := index(), index()
				// Trees that grow without end would have too many entries to be compared.
				if f.Arena.Size(left)+f.Arena.Size(right) < 60 {
					f.Make(left, api.Entry{Key: int64(round), Value: int64(next(100) - 50)}, right)
				}
			case kind < 6 && len(f.Held) > 0:
				f.Release(f.Held[next(len(f.Held))])
			default:
				r := rotations()[next(4)]
				if _, err := f.rotate(r, uint32(next(capacity+2))); err == api.OK {
					done[r.name]++
				}
			}
		}
		for _, r := range rotations() {
			if capacity > 4 && done[r.name] < 20 {
				t.Errorf("%s was done only %d times with %d slots", r.name, done[r.name], capacity)
			}
		}
	}
}

// TestSameCalls holds that the same calls on equal arenas have the same results, whatever happens in another arena.
func TestSameCalls(t *testing.T) {
	other := newFixture(t, 50)
	forms(other)
	run := func(also bool) api.Dump {
		f := newFixture(t, 30)
		root := forms(f)
		for round := range 10 {
			f.rotate(rotations()[round%4], root)
			if also {
				other.rotate(rotations()[round%3], 7)
			}
			if round%3 == 2 {
				f.Release(f.Held[1])
			}
		}
		return f.Arena.Dump()
	}
	x, y := run(false), run(true)
	if !slices.Equal(x.Slots, y.Slots) || !slices.Equal(x.Free, y.Free) {
		t.Errorf("two runs differ: %v, %v", x, y)
	}
}

// TestReleasedTooOften has callers that release references that they do not hold, so that children are missing or nodes are in circles. The functions return nevertheless, and a failed one leaves all counts as they were.
func TestReleasedTooOften(t *testing.T) {
	const capacity = 7
	next := treetest.Generator(1)
	a := newFixture(t, capacity).Arena
	for range 60000 {
		if next(2) == 0 {
			a.Make(int64(next(9)), 0, uint32(next(capacity+2)), uint32(next(capacity+2)))
		} else {
			a.Release(uint32(next(capacity + 2)))
		}
		r := rotations()[next(4)]
		before := treetest.Counts(a)
		got, err := r.call(a, uint32(next(capacity+2)))
		if (got != 0) != (err == api.OK) {
			t.Fatalf("%s: %d, %d", r.name, got, err)
		}
		if err != api.OK && !slices.Equal(treetest.Counts(a), before) {
			t.Fatalf("%s: %d: the counts %v have become %v", r.name, err, before, treetest.Counts(a))
		}
		a.Release(got)
	}
}

// TestOutdatedSizes has subtrees that were released too often and whose slots have larger trees now, so that no arena can have the result.
func TestOutdatedSizes(t *testing.T) {
	f := newFixture(t, 40)
	half := uint32(0)
	for k := range int64(29) {
		half = f.Make(half, api.Entry{Key: k}, half)
	}
	x, q, w := f.Make(0, api.Entry{}, 0), f.Make(0, api.Entry{}, 0), f.Make(0, api.Entry{}, 0)
	forLeft := f.Make(x, api.Entry{}, f.Make(q, api.Entry{}, w))
	forRight := f.Make(f.Make(x, api.Entry{}, q), api.Entry{}, w)
	for _, i := range []uint32{w, x} {
		for f.Arena.Count(i) > 0 {
			f.Arena.Release(i)
		}
	}
	if f.Make(half, api.Entry{}, half) != x || f.Make(half, api.Entry{}, half) != w {
		t.Fatalf("P3.2: the slots %d and %d are not used again", x, w)
	}
	before := treetest.Counts(f.Arena)
	for _, call := range []func() (uint32, api.Errno){
		func() (uint32, api.Errno) { return DoubleLeft(f.Arena, forLeft) },
		func() (uint32, api.Errno) { return DoubleRight(f.Arena, forRight) },
	} {
		if got, err := call(); got != 0 || err != api.ErrInvalid || !slices.Equal(treetest.Counts(f.Arena), before) {
			t.Errorf("%d, %d: the counts %v have become %v", got, err, before, treetest.Counts(f.Arena))
		}
	}
}
