package arena

import (
	"math"
	"runtime"
	"slices"
	"testing"
	"time"

	"versionmap/api"
)

// model follows the wording of chapters 03 and 05: for each slot, it keeps what happened to it, and it finds the reference counts by looking for references.
type model struct {
	slots []modelSlot
	now   int
	reads uint64
}

type modelSlot struct {
	allocated  bool
	allocs     uint32
	releasedAt int // 0 if it was never released
	node       api.Node
	held       int
	fields     [2]uint32 // the children whose references were not removed yet
}

// order repeatedly takes the free slot that was released last, or, of several that were never released, the least one.
func (m *model) order() []uint32 {
	var order []uint32
	for i, s := range m.slots {
		if !s.allocated {
			order = append(order, uint32(i+1))
		}
	}
	slices.SortStableFunc(order, func(x, y uint32) int {
		return m.slots[y-1].releasedAt - m.slots[x-1].releasedAt
	})
	return order
}

func (m *model) allocated(i uint32) bool {
	return i != 0 && int64(i) <= int64(len(m.slots)) && m.slots[i-1].allocated
}

func (m *model) isIndex(i uint32) bool {
	return i == 0 || m.allocated(i)
}

func (m *model) node(i uint32) (api.Node, bool) {
	if !m.allocated(i) {
		return api.Node{}, false
	}
	return m.slots[i-1].node, true
}

func (m *model) count(i uint32) int {
	if !m.allocated(i) {
		return 0
	}
	count := m.slots[i-1].held
	for _, s := range m.slots {
		for _, child := range s.fields {
			if child == i {
				count++
			}
		}
	}
	return count
}

func (m *model) make(key, value int64, left, right uint32) (uint32, api.Errno) {
	if !m.isIndex(left) || !m.isIndex(right) {
		return 0, api.ErrInvalid
	}
	node := api.Node{Key: key, Value: value, Left: left, Right: right, Size: 1, Sum: value, Min: value, Max: value}
	for _, i := range []uint32{left, right} {
		if child, ok := m.node(i); ok {
			node.Size += child.Size
			node.Sum += child.Sum
			node.Min = min(node.Min, child.Min)
			node.Max = max(node.Max, child.Max)
		}
	}
	if node.Size > 1<<31-1 {
		return 0, api.ErrInvalid
	}
	order := m.order()
	if len(order) == 0 {
		return 0, api.ErrFull
	}
	s := &m.slots[order[0]-1]
	s.allocated, s.node, s.held, s.fields = true, node, 1, [2]uint32{left, right}
	s.allocs++
	return order[0], api.OK
}

func (m *model) retain(i uint32) api.Errno {
	if !m.isIndex(i) {
		return api.ErrFree
	}
	if i != 0 {
		m.slots[i-1].held++
	}
	return api.OK
}

func (m *model) release(i uint32) (int, api.Errno) {
	if !m.isIndex(i) {
		return 0, api.ErrFree
	}
	if i == 0 {
		return 0, api.OK
	}
	m.slots[i-1].held--
	return m.free(i), api.OK
}

// free releases slot i if nothing refers to it, and then removes the references of its fields one after the other.
func (m *model) free(i uint32) int {
	if i == 0 || m.count(i) > 0 {
		return 0
	}
	m.now++
	s := &m.slots[i-1]
	s.allocated, s.node, s.releasedAt = false, api.Node{}, m.now
	freed := 1
	for side, child := range s.fields {
		s.fields[side] = 0
		freed += m.free(child)
	}
	return freed
}

// pair is an arena with its model.
type pair struct {
	t *testing.T
	a *Arena
	m *model
}

func newArena(t *testing.T, capacity int) *Arena {
	t.Helper()
	a, err := New(capacity)
	if a == nil || err != api.OK {
		t.Fatalf("P5.1: New(%d): %v, %d", capacity, a, err)
	}
	return a
}

func newPair(t *testing.T, capacity int) pair {
	t.Helper()
	return pair{t, newArena(t, capacity), &model{slots: make([]modelSlot, capacity)}}
}

func (p pair) make(key, value int64, left, right uint32) (uint32, api.Errno) {
	p.t.Helper()
	got, err := p.a.Make(key, value, left, right)
	want, wantErr := p.m.make(key, value, left, right)
	if got != want || err != wantErr {
		p.t.Fatalf("P5.2: Make(%d, %d, %d, %d): %d, %d; want %d, %d", key, value, left, right, got, err, want, wantErr)
	}
	return got, err
}

func (p pair) retain(i uint32) api.Errno {
	p.t.Helper()
	err, want := p.a.Retain(i), p.m.retain(i)
	if err != want {
		p.t.Fatalf("P5.4: Retain(%d): %d, want %d", i, err, want)
	}
	return err
}

func (p pair) release(i uint32) api.Errno {
	p.t.Helper()
	got, err := p.a.Release(i)
	want, wantErr := p.m.release(i)
	if got != want || err != wantErr {
		p.t.Fatalf("P5.4: Release(%d): %d, %d; want %d, %d", i, got, err, want, wantErr)
	}
	return err
}

// check compares everything that can be asked, also about numbers that are not slots.
func (p pair) check() {
	p.t.Helper()
	capacity, order := len(p.m.slots), p.m.order()
	if p.a.Capacity() != capacity || p.a.Free() != len(order) {
		p.t.Fatalf("P5.1: capacity %d, %d free; want %d, %d", p.a.Capacity(), p.a.Free(), capacity, len(order))
	}
	for i := range uint32(capacity + 2) {
		p.checkSlot(i)
	}
	for _, i := range strangers(capacity) {
		p.checkSlot(i)
	}
	p.checkDump(order)
	if p.a.Reads() != p.m.reads {
		p.t.Fatalf("P5.5: %d reads, want %d", p.a.Reads(), p.m.reads)
	}
}

func (p pair) checkSlot(i uint32) {
	p.t.Helper()
	node, ok := p.m.node(i)
	if ok {
		p.m.reads += 2
	}
	if got, gotOK := p.a.Node(i); got != node || gotOK != ok {
		p.t.Fatalf("P5.3: Node(%d): %v, %t; want %v, %t", i, got, gotOK, node, ok)
	}
	if got := p.a.Size(i); got != node.Size {
		p.t.Fatalf("P5.3: Size(%d): %d, want %d", i, got, node.Size)
	}
	if got, want := p.a.Count(i), p.m.count(i); got != want {
		p.t.Fatalf("P5.3: Count(%d): %d, want %d", i, got, want)
	}
	generation := uint32(0)
	if i != 0 && int64(i) <= int64(len(p.m.slots)) {
		generation = p.m.slots[i-1].allocs
	}
	if got := p.a.Generation(i); got != generation {
		p.t.Fatalf("P5.1: Generation(%d): %d, want %d", i, got, generation)
	}
}

func (p pair) checkDump(order []uint32) {
	p.t.Helper()
	dump := p.a.Dump()
	if !slices.Equal(dump.Free, order) {
		p.t.Fatalf("P5.6: Free: %d, want %d", dump.Free, order)
	}
	if len(dump.Slots) != len(p.m.slots) {
		p.t.Fatalf("P5.6: %d slots", len(dump.Slots))
	}
	for n, s := range p.m.slots {
		want := api.Slot{Allocated: s.allocated, Count: p.m.count(uint32(n + 1)), Generation: s.allocs, Node: s.node}
		if dump.Slots[n] != want {
			p.t.Fatalf("P5.6: slot %d: %v, want %v", n+1, dump.Slots[n], want)
		}
	}
}

// strangers returns numbers that are not slots of an arena with this capacity. Those that are slots modulo 2^16 or as a signed number are among them.
func strangers(capacity int) []uint32 {
	n := uint32(capacity)
	return []uint32{n + 1, n + 2, api.MaxSlots + 1, 1<<17 + 1, 1 << 31, 1<<31 + 1, math.MaxUint32 - 1, math.MaxUint32}
}

func TestNewLimits(t *testing.T) {
	for _, n := range []int{0, -1, -2, -api.MaxSlots, api.MaxSlots + 1, 2 * api.MaxSlots, math.MaxInt32, math.MinInt32, math.MaxInt, math.MinInt} {
		if a, err := New(n); a != nil || err != api.ErrInvalid {
			t.Errorf("P5.1: New(%d): %v, %d", n, a, err)
		}
	}
	for _, n := range []int{1, 2, 3, 255, 256, 257, api.MaxSlots - 1, api.MaxSlots} {
		a := newArena(t, n)
		dump := a.Dump()
		if a.Capacity() != n || a.Free() != n || len(dump.Slots) != n || len(dump.Free) != n || a.Reads() != 0 {
			t.Errorf("P5.1: New(%d): capacity %d, %d free, %d reads", n, a.Capacity(), a.Free(), a.Reads())
		}
		if dump.Slots[n-1] != (api.Slot{}) || dump.Free[0] != 1 || dump.Free[n-1] != uint32(n) {
			t.Errorf("P5.6: New(%d): %v", n, dump.Slots[n-1])
		}
	}
}

func TestExample(t *testing.T) {
	a := newArena(t, 3)
	first, _ := a.Make(1, 10, 0, 0)
	second, _ := a.Make(2, 20, 1, 0)
	node, ok := a.Node(2)
	if first != 1 || second != 2 || !ok || node != (api.Node{Key: 2, Value: 20, Left: 1, Size: 2, Sum: 30, Min: 10, Max: 20}) {
		t.Errorf("P5.2: %d, %d, %v, %t", first, second, node, ok)
	}
	if a.Count(1) != 2 || a.Count(2) != 1 {
		t.Errorf("P5.2: counts %d, %d", a.Count(1), a.Count(2))
	}
	if n, err := a.Release(1); n != 0 || err != api.OK {
		t.Errorf("P5.4: Release(1): %d, %d", n, err)
	}
	if n, err := a.Release(2); n != 2 || err != api.OK || !slices.Equal(a.Dump().Free, []uint32{1, 2, 3}) {
		t.Errorf("P5.4: Release(2): %d, %d, %d", n, err, a.Dump().Free)
	}
}

// call is a call of Make (with the children x and y), of Retain(x) or of Release(x).
type call struct {
	kind int
	x, y uint32
}

const (
	callMake = iota
	callRetain
	callRelease
)

// allCalls has the children and the slots of an arena with this capacity, and the number after them.
func allCalls(capacity int) []call {
	var calls []call
	for x := range uint32(capacity + 2) {
		calls = append(calls, call{callRetain, x, 0}, call{callRelease, x, 0})
		for y := range uint32(capacity + 2) {
			calls = append(calls, call{callMake, x, y})
		}
	}
	return calls
}

// run makes one call, and reports whether it succeeded. A caller that holds no reference to an allocated slot does not release it.
func (p pair) run(c call, round int) bool {
	p.t.Helper()
	value := int64(round*round*7%11 - 5)
	err := api.OK
	switch {
	case c.kind == callMake:
		_, err = p.make(int64(round), value, c.x, c.y)
	case c.kind == callRetain:
		err = p.retain(c.x)
	case p.m.allocated(c.x) && p.m.slots[c.x-1].held == 0:
		return false
	default:
		err = p.release(c.x)
	}
	return err == api.OK
}

// TestSequences runs all sequences of calls on small arenas. A call that changes nothing is the last one of its sequence.
func TestSequences(t *testing.T) {
	for _, size := range []struct{ capacity, longest int }{{1, 9}, {2, 7}, {3, 5}} {
		calls := allCalls(size.capacity)
		var extend func(sequence []call)
		extend = func(sequence []call) {
			for _, next := range calls {
				p := newPair(t, size.capacity)
				for round, c := range sequence {
					p.run(c, round)
				}
				changed := p.run(next, len(sequence)) && (next.kind == callMake || next.x != 0)
				p.check()
				if changed && len(sequence)+1 < size.longest {
					extend(append(slices.Clone(sequence), next))
				}
			}
		}
		extend(nil)
	}
}

// TestLongRuns alternates between phases with more calls of Make and phases with more calls of Release, so that the arenas are often full and often empty.
func TestLongRuns(t *testing.T) {
	for _, capacity := range []int{1, 2, 5, 16, 40} {
		p := newPair(t, capacity)
		x := uint64(capacity)
		next := func(n int) int {
			x = x*6364136223846793005 + 1442695040888963407
			return int(x>>33) % n
		}
		for round := range 6000 {
			i, j := uint32(next(capacity+2)), uint32(next(capacity+2))
			mostlyMake := round/(4*capacity)%2 == 0
			switch {
			case (next(4) == 0) != mostlyMake:
				if next(3) == 0 {
					j = 0
				}
				p.run(call{callMake, i, j}, round)
			case next(4) == 0:
				p.run(call{callRetain, i, 0}, round)
			default:
				p.run(call{callRelease, i, 0}, round)
			}
			p.check()
		}
	}
}

// TestAggregates compares the aggregates with the values of the entries of a tree, with the extreme values among them.
func TestAggregates(t *testing.T) {
	values := []int64{math.MinInt64, math.MinInt64 + 1, -7, -1, 0, 1, 5, math.MaxInt64 - 1, math.MaxInt64}
	a := newArena(t, 3)
	check := func(i uint32, values ...int64) {
		t.Helper()
		sum := int64(0)
		for _, v := range values {
			sum += v
		}
		n, ok := a.Node(i)
		if !ok || n.Size != len(values) || n.Sum != sum || n.Min != slices.Min(values) || n.Max != slices.Max(values) {
			t.Errorf("P5.2: %d: %v, %t", values, n, ok)
		}
	}
	for _, x := range values {
		for _, y := range values {
			for _, z := range values {
				l, _ := a.Make(1, x, 0, 0)
				check(l, x)
				r, _ := a.Make(3, z, 0, 0)
				both, _ := a.Make(2, y, l, r)
				check(both, x, y, z)
				a.Release(both)
				left, _ := a.Make(2, y, l, 0)
				check(left, x, y)
				a.Release(left)
				right, _ := a.Make(2, y, 0, r)
				check(right, y, z)
				a.Release(right)
				twice, _ := a.Make(2, y, r, r)
				check(twice, z, y, z)
				a.Release(twice)
				a.Release(l)
				a.Release(r)
			}
		}
	}
}

// TestKeys holds that Make takes keys in any order.
func TestKeys(t *testing.T) {
	keys := []int64{0, math.MinInt64, math.MaxInt64, 5, 5, -5}
	p := newPair(t, len(keys))
	for n, key := range keys {
		p.make(key, key, uint32(n), 0)
		p.check()
	}
}

// doubled makes a node of 2^31 - 1 entries, in which each node is the left and the right child of the next one.
func doubled(t *testing.T, p pair) uint32 {
	t.Helper()
	root := uint32(0)
	for range 31 {
		next, err := p.make(1, 1, root, root)
		if err != api.OK {
			t.Fatalf("P5.2: Make: %d", err)
		}
		root = next
	}
	return root
}

func TestMaxSize(t *testing.T) {
	p := newPair(t, 33)
	root := doubled(t, p)
	if p.a.Size(root) != api.MaxSize {
		t.Errorf("P5.2: Size %d", p.a.Size(root))
	}
	p.m.reads++
	p.check()
	leaf, _ := p.make(1, 1, 0, 0)
	tooGreat := [][2]uint32{{root, 0}, {0, root}, {root, root}, {root, leaf}, {leaf, root}, {root, root - 1}}
	for range 2 {
		for _, c := range tooGreat {
			if i, err := p.make(1, 1, c[0], c[1]); i != 0 || err != api.ErrInvalid {
				t.Errorf("P5.2: Make of %d: %d, %d", c, i, err)
			}
			p.check()
		}
		// In the second round, no slot is free.
		p.make(1, 1, root-1, 0)
	}
	if i, err := p.make(1, 1, root-1, 0); i != 0 || err != api.ErrFull {
		t.Errorf("P5.2: full: %d, %d", i, err)
	}
	p.check()
}

// TestMaxSizeIsExact has Sizes just below and just above the limit, on either side.
func TestMaxSizeIsExact(t *testing.T) {
	p := newPair(t, 36)
	root := doubled(t, p)
	half := root - 1
	more, _ := p.make(1, 1, half, 0)
	less, _ := p.make(1, 1, half-1, half-1)
	for _, c := range [][2]uint32{{half, more}, {more, half}, {more, more}} {
		if i, err := p.make(1, 1, c[0], c[1]); i != 0 || err != api.ErrInvalid {
			t.Errorf("P5.2: Make of %d: %d, %d", c, i, err)
		}
	}
	for _, c := range [][2]uint32{{half, less}, {less, half}} {
		if i, err := p.make(1, 1, c[0], c[1]); i == 0 || err != api.OK {
			t.Errorf("P5.2: Make of %d: %d, %d", c, i, err)
		}
	}
	p.check()
}

func TestMakeInvalid(t *testing.T) {
	const capacity = 4
	for allocated := range capacity + 1 {
		p := newPair(t, capacity)
		for n := range allocated {
			p.make(int64(n), 1, 0, 0)
		}
		bad := strangers(capacity)
		for i := allocated + 1; i <= capacity; i++ {
			bad = append(bad, uint32(i))
		}
		for _, x := range bad {
			for _, c := range [][2]uint32{{x, 0}, {0, x}, {x, x}, {x, uint32(allocated)}, {uint32(allocated), x}} {
				if i, err := p.make(1, 1, c[0], c[1]); i != 0 || err != api.ErrInvalid {
					t.Errorf("P5.2: Make of %d: %d, %d", c, i, err)
				}
				p.check()
			}
		}
	}
}

// TestReleasedChild holds that a slot that was released is no child, until it is allocated again.
func TestReleasedChild(t *testing.T) {
	p := newPair(t, 2)
	i, _ := p.make(1, 1, 0, 0)
	p.release(i)
	if _, err := p.make(2, 2, i, 0); err != api.ErrInvalid {
		t.Errorf("P5.2: a released child: %d", err)
	}
	p.check()
	p.make(3, 3, 0, 0)
	if _, err := p.make(2, 2, i, 0); err != api.OK {
		t.Errorf("P5.2: a slot that is allocated again: %d", err)
	}
	p.check()
}

func TestFull(t *testing.T) {
	p := newPair(t, 2)
	p.make(1, 1, 0, 0)
	p.make(2, 2, 1, 1)
	for _, c := range [][2]uint32{{0, 0}, {1, 0}, {0, 2}, {1, 2}, {2, 2}} {
		if i, err := p.make(3, 3, c[0], c[1]); i != 0 || err != api.ErrFull {
			t.Errorf("P5.2: full: %d, %d", i, err)
		}
		p.check()
	}
	p.release(2)
	p.check()
	if i, err := p.make(3, 3, 1, 0); i != 2 || err != api.OK || p.a.Generation(2) != 2 {
		t.Errorf("P5.2: %d, %d, generation %d", i, err, p.a.Generation(2))
	}
	p.check()
}

func TestRetainAndReleaseInvalid(t *testing.T) {
	const capacity = 4
	for allocated := range capacity + 1 {
		p := newPair(t, capacity)
		for n := range allocated {
			p.make(int64(n), 1, uint32(n), 0)
		}
		bad := strangers(capacity)
		for i := allocated + 1; i <= capacity; i++ {
			bad = append(bad, uint32(i))
		}
		for _, i := range bad {
			if err := p.retain(i); err != api.ErrFree {
				t.Errorf("P5.4: Retain(%d): %d", i, err)
			}
			if err := p.release(i); err != api.ErrFree {
				t.Errorf("P5.4: Release(%d): %d", i, err)
			}
			p.check()
		}
		for range 3 {
			if p.retain(0) != api.OK || p.release(0) != api.OK || p.release(0) != api.OK {
				t.Error("P5.4: the empty tree")
			}
			p.check()
		}
	}
}

func TestRetainManyTimes(t *testing.T) {
	p := newPair(t, 2)
	i, _ := p.make(1, 1, 0, 0)
	for range 1000 {
		p.retain(i)
	}
	p.check()
	for range 1000 {
		p.release(i)
	}
	p.check()
	if n, err := p.a.Release(i); n != 1 || err != api.OK || p.a.Free() != 2 {
		t.Errorf("P5.4: %d, %d, %d free", n, err, p.a.Free())
	}
	if n, err := p.a.Release(i); n != 0 || err != api.ErrFree {
		t.Errorf("P5.4: released twice: %d, %d", n, err)
	}
}

// TestReleaseOrder has trees in which a reference on the right keeps a slot until its turn comes.
func TestReleaseOrder(t *testing.T) {
	cases := []struct {
		nodes [][2]uint32 // the children of the slots 1, 2, ..; the last one is the root
		freed []uint32
	}{
		{[][2]uint32{{0, 0}, {1, 0}, {0, 0}, {2, 3}}, []uint32{4, 2, 1, 3}},
		{[][2]uint32{{0, 0}, {0, 0}, {1, 2}, {0, 0}, {0, 0}, {4, 5}, {3, 6}}, []uint32{7, 3, 1, 2, 6, 4, 5}},
		{[][2]uint32{{0, 0}, {1, 1}}, []uint32{2, 1}},
		{[][2]uint32{{0, 0}, {0, 0}, {1, 2}, {3, 1}}, []uint32{4, 3, 2, 1}},
		{[][2]uint32{{0, 0}, {0, 0}, {0, 1}, {3, 2}, {4, 1}}, []uint32{5, 4, 3, 2, 1}},
		{[][2]uint32{{0, 0}, {1, 0}, {0, 0}, {1, 3}, {4, 2}}, []uint32{5, 4, 3, 2, 1}},
		{[][2]uint32{{0, 0}, {0, 0}, {0, 0}, {1, 2}, {1, 3}, {4, 5}}, []uint32{6, 4, 2, 5, 1, 3}},
	}
	for _, c := range cases {
		p := newPair(t, len(c.nodes))
		for n, children := range c.nodes {
			p.make(int64(n), 1, children[0], children[1])
		}
		root := uint32(len(c.nodes))
		for i := uint32(1); i < root; i++ {
			p.release(i)
		}
		if n, err := p.a.Release(root); n != len(c.nodes) || err != api.OK {
			t.Errorf("P5.4: Release: %d, %d", n, err)
		}
		want := slices.Clone(c.freed)
		slices.Reverse(want)
		if got := p.a.Dump().Free; !slices.Equal(got, want) {
			t.Errorf("P5.4: %v: free %d, want %d", c.nodes, got, want)
		}
	}
}

// TestReleaseStops holds that the cascade ends at slots that a caller or another tree holds.
func TestReleaseStops(t *testing.T) {
	p := newPair(t, 7)
	shared, _ := p.make(1, 1, 0, 0)
	held, _ := p.make(2, 2, shared, 0)
	left, _ := p.make(3, 3, held, shared)
	right, _ := p.make(4, 4, shared, shared)
	root, _ := p.make(5, 5, left, right)
	other, _ := p.make(6, 6, right, 0)
	for _, i := range []uint32{shared, left, right, root, other, held} {
		p.release(i)
		p.check()
	}
	if p.a.Free() != 7 {
		t.Errorf("P5.4: %d free", p.a.Free())
	}
}

// chain makes n nodes, each of which is a child of the next one, and returns the last one. side says which child it is.
func chain(t *testing.T, a *Arena, n int, side func(n int) bool) uint32 {
	t.Helper()
	root := uint32(0)
	for k := range n {
		left, right := root, uint32(0)
		if side(k) {
			left, right = 0, root
		}
		next, err := a.Make(int64(k), 1, left, right)
		if err != api.OK {
			t.Fatalf("P5.2: Make: %d", err)
		}
		a.Release(root)
		root = next
	}
	return root
}

func TestDeepCascade(t *testing.T) {
	sides := []func(n int) bool{
		func(n int) bool { return false },
		func(n int) bool { return true },
		func(n int) bool { return n%2 == 0 },
	}
	a := newArena(t, api.MaxSlots)
	for round, side := range sides {
		root := chain(t, a, api.MaxSlots, side)
		if a.Free() != 0 || a.Size(root) != api.MaxSlots || a.Generation(1) != uint32(round+1) {
			t.Errorf("P5.2: %d free, Size %d, generation %d", a.Free(), a.Size(root), a.Generation(1))
		}
		if n, err := a.Release(root); n != api.MaxSlots || err != api.OK || a.Free() != api.MaxSlots {
			t.Errorf("P5.4: Release: %d, %d, %d free", n, err, a.Free())
		}
	}
}

// TestManyPaths releases 2^31 - 1 paths of shared nodes, which takes no more time than 31 slots do.
func TestManyPaths(t *testing.T) {
	p := newPair(t, 31)
	root := doubled(t, p)
	for i := uint32(1); i < root; i++ {
		p.release(i)
	}
	p.check()
	if n, err := p.a.Release(root); n != 31 || err != api.OK || p.a.Free() != 31 {
		t.Errorf("P5.4: Release: %d, %d, %d free", n, err, p.a.Free())
	}
}

// churn makes and frees a node on a tree, and adds and removes a reference to the tree.
func churn(a *Arena, root uint32, times int) {
	for range times {
		i, _ := a.Make(0, 0, root, 0)
		a.Release(i)
		a.Retain(root)
		a.Release(root)
	}
}

func TestReleaseMemory(t *testing.T) {
	const times = 1000
	a := newArena(t, api.MaxSlots)
	root := chain(t, a, api.MaxSlots-1, func(n int) bool { return false })
	churn(a, root, 1)
	var before, after runtime.MemStats
	runtime.ReadMemStats(&before)
	churn(a, root, times)
	runtime.ReadMemStats(&after)
	if used := after.TotalAlloc - before.TotalAlloc; used > 1000*times {
		t.Errorf("P5.4: %d bytes for %d slots", used, times)
	}
}

// TestReleaseTime compares the same calls on a small and on a full arena. A call that visits the whole tree would take thousands of times as long.
func TestReleaseTime(t *testing.T) {
	fastest := func(capacity int) time.Duration {
		a := newArena(t, capacity)
		root := chain(t, a, capacity-1, func(n int) bool { return false })
		best := time.Duration(math.MaxInt64)
		for range 10 {
			start := time.Now()
			churn(a, root, 500)
			best = min(best, time.Since(start))
		}
		return best
	}
	small, full := fastest(2), fastest(api.MaxSlots)
	if full > 100*(small+time.Microsecond) {
		t.Errorf("P5.4: %v in a small arena, %v in a full one", small, full)
	}
}

// TestReleasedTooOften has callers that release references that they do not hold. Then only rule 1 holds: the calls end, and the slots are all there.
func TestReleasedTooOften(t *testing.T) {
	const capacity = 5
	a := newArena(t, capacity)
	x := uint64(1)
	next := func(n int) uint32 {
		x = x*6364136223846793005 + 1442695040888963407
		return uint32(x>>33) % uint32(n)
	}
	for range 20000 {
		if next(2) == 0 {
			a.Make(1, 1, next(capacity+2), next(capacity+2))
		} else {
			a.Release(next(capacity + 2))
		}
		allocated := 0
		for _, s := range a.Dump().Slots {
			if s.Allocated {
				allocated++
			}
		}
		if allocated+a.Free() != capacity {
			t.Fatalf("P5.4: %d allocated, %d free", allocated, a.Free())
		}
	}
}

func TestReads(t *testing.T) {
	a := newArena(t, 4)
	check := func(what string, want uint64, calls ...func()) {
		t.Helper()
		before := a.Reads()
		for _, call := range calls {
			call()
		}
		if got := a.Reads() - before; got != want {
			t.Errorf("P5.5: %s: %d reads, want %d", what, got, want)
		}
	}
	check("an empty arena", 0, func() { a.Node(1) }, func() { a.Size(1) }, func() { a.Node(0) })
	check("Make", 0, func() { a.Make(1, 1, 0, 0) }, func() { a.Make(2, 2, 1, 0) }, func() { a.Make(3, 3, 1, 2) })
	check("Node", 3, func() { a.Node(1) }, func() { a.Node(2) }, func() { a.Node(1) })
	check("Size", 2, func() { a.Size(3) }, func() { a.Size(3) })
	check("not a slot", 0, func() { a.Node(0) }, func() { a.Size(0) }, func() { a.Node(4) }, func() { a.Size(4) },
		func() { a.Node(5) }, func() { a.Size(math.MaxUint32) })
	check("other calls", 0, func() { a.Count(1) }, func() { a.Generation(1) }, func() { a.Retain(1) },
		func() { a.Free() }, func() { a.Capacity() }, func() { a.Dump() }, func() { a.Reads() })
	check("failed calls", 0, func() { a.Make(1, 1, 9, 0) }, func() { a.Retain(9) }, func() { a.Release(9) })
	check("Release", 0, func() { a.Release(1) }, func() { a.Release(1) }, func() { a.Release(2) }, func() { a.Release(3) })
	check("released slots", 0, func() { a.Node(3) }, func() { a.Size(3) })
}

func TestDumpIsNew(t *testing.T) {
	p := newPair(t, 4)
	p.make(1, 10, 0, 0)
	p.make(2, 20, 1, 0)
	p.make(3, 30, 0, 0)
	p.release(3)
	kept, changed := p.a.Dump(), p.a.Dump()
	for n := range changed.Slots {
		changed.Slots[n] = api.Slot{Count: 9, Node: api.Node{Key: 9}}
	}
	for n := range changed.Free {
		changed.Free[n] = 99
	}
	p.check()
	p.release(2)
	p.make(4, 40, 0, 0)
	p.make(5, 50, 0, 0)
	want := api.Slot{Allocated: true, Count: 1, Generation: 1, Node: api.Node{Key: 2, Value: 20, Left: 1, Size: 2, Sum: 30, Min: 10, Max: 20}}
	if kept.Slots[1] != want || !slices.Equal(kept.Free, []uint32{3, 4}) {
		t.Errorf("P5.6: a result changed: %v, %d", kept.Slots[1], kept.Free)
	}
}

func TestNodesAreCopies(t *testing.T) {
	p := newPair(t, 2)
	p.make(1, 10, 0, 0)
	node, _ := p.a.Node(1)
	p.m.reads++
	node.Value, node.Left = 99, 1
	p.check()
	p.release(1)
	p.make(2, 20, 0, 0)
	if node.Key != 1 || node.Value != 99 {
		t.Errorf("P5.3: a result changed: %v", node)
	}
	p.check()
}

func TestArenasAreSeparate(t *testing.T) {
	p, q := newPair(t, 3), newPair(t, 3)
	p.make(1, 1, 0, 0)
	p.make(2, 2, 1, 0)
	q.check()
	q.make(3, 3, 0, 0)
	q.release(1)
	p.check()
	q.check()
}
