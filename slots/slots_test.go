package slots

import (
	"math"
	"slices"
	"testing"

	"versionmap/api"
)

// model follows the wording of the chapter: for each slot, it keeps what happened to it.
type model struct {
	slots []modelSlot
	now   int
}

type modelSlot struct {
	allocated  bool
	allocs     int
	releasedAt int // 0 if it was never released
}

func newModel(capacity int) *model {
	return &model{slots: make([]modelSlot, capacity)}
}

func (m *model) clone() *model {
	return &model{slices.Clone(m.slots), m.now}
}

// alloc takes the free slot with the greatest time of release, and of several that were never released the least one.
func (m *model) alloc() (uint32, api.Errno) {
	best := -1
	for i, s := range m.slots {
		if !s.allocated && (best < 0 || s.releasedAt > m.slots[best].releasedAt) {
			best = i
		}
	}
	if best < 0 {
		return 0, api.ErrFull
	}
	m.slots[best].allocated = true
	m.slots[best].allocs++
	return uint32(best + 1), api.OK
}

func (m *model) release(i uint32) api.Errno {
	if !m.allocated(i) {
		return api.ErrFree
	}
	m.now++
	m.slots[i-1].allocated = false
	m.slots[i-1].releasedAt = m.now
	return api.OK
}

func (m *model) allocated(i uint32) bool {
	return i != 0 && int64(i) <= int64(len(m.slots)) && m.slots[i-1].allocated
}

func (m *model) generation(i uint32) uint32 {
	if i == 0 || int64(i) > int64(len(m.slots)) {
		return 0
	}
	return uint32(m.slots[i-1].allocs)
}

// order allocates all free slots of a copy.
func (m *model) order() []uint32 {
	rest := m.clone()
	var order []uint32
	for {
		i, err := rest.alloc()
		if err != api.OK {
			return order
		}
		order = append(order, i)
	}
}

// pair is an allocator with its model.
type pair struct {
	t *testing.T
	s *Slots
	m *model
}

func newPair(t *testing.T, capacity int) pair {
	t.Helper()
	s, err := New(capacity)
	if s == nil || err != api.OK {
		t.Fatalf("P3.1: New(%d): %v, %d", capacity, s, err)
	}
	return pair{t, s, newModel(capacity)}
}

// step calls Alloc if i is negative, and otherwise Release.
func (p pair) step(i int64) {
	p.t.Helper()
	if i < 0 {
		got, err := p.s.Alloc()
		want, wantErr := p.m.alloc()
		if got != want || err != wantErr {
			p.t.Fatalf("P3.2: Alloc: %d, %d; want %d, %d", got, err, want, wantErr)
		}
		return
	}
	if err, want := p.s.Release(uint32(i)), p.m.release(uint32(i)); err != want {
		p.t.Fatalf("P3.3: Release(%d): %d, want %d", i, err, want)
	}
}

// check compares everything that can be asked, also about numbers that are not slots.
func (p pair) check() {
	p.t.Helper()
	capacity := len(p.m.slots)
	order := p.m.order()
	if p.s.Capacity() != capacity || p.s.Free() != len(order) {
		p.t.Fatalf("P3.1: capacity %d, %d free; want %d, %d", p.s.Capacity(), p.s.Free(), capacity, len(order))
	}
	for i := range uint32(capacity + 2) {
		p.checkSlot(i)
	}
	for _, i := range strangers(capacity) {
		p.checkSlot(i)
	}
	if got := p.s.Order(); !slices.Equal(got, order) {
		p.t.Fatalf("P3.5: Order: %d, want %d", got, order)
	}
}

func (p pair) checkSlot(i uint32) {
	p.t.Helper()
	if got, want := p.s.Allocated(i), p.m.allocated(i); got != want {
		p.t.Fatalf("P3.3: Allocated(%d): %t, want %t", i, got, want)
	}
	if got, want := p.s.Generation(i), p.m.generation(i); got != want {
		p.t.Fatalf("P3.4: Generation(%d): %d, want %d", i, got, want)
	}
}

// strangers returns numbers that are not slots of an allocator with this capacity. Those that are slots modulo 2^16 or as a signed number are among them.
func strangers(capacity int) []uint32 {
	n := uint32(capacity)
	return []uint32{0, n + 1, n + 2, api.MaxSlots + 1, 1<<17 + 1, 1 << 31, 1<<31 + 1, math.MaxUint32 - 1, math.MaxUint32}
}

func TestNewLimits(t *testing.T) {
	for _, n := range []int{0, -1, -2, -api.MaxSlots, api.MaxSlots + 1, 2 * api.MaxSlots, math.MaxInt32, math.MinInt32, math.MaxInt, math.MinInt} {
		if s, err := New(n); s != nil || err != api.ErrInvalid {
			t.Errorf("P3.1: New(%d): %v, %d", n, s, err)
		}
	}
	for _, n := range []int{1, 2, 3, 255, 256, 257, api.MaxSlots - 1, api.MaxSlots} {
		s, err := New(n)
		if s == nil || err != api.OK {
			t.Fatalf("P3.1: New(%d): %v, %d", n, s, err)
		}
		if s.Capacity() != n || s.Free() != n || len(s.Order()) != n || s.Allocated(1) || s.Allocated(uint32(n)) {
			t.Errorf("P3.1: New(%d): capacity %d, %d free", n, s.Capacity(), s.Free())
		}
	}
}

func TestExample(t *testing.T) {
	s, _ := New(3)
	first, _ := s.Alloc()
	second, _ := s.Alloc()
	if first != 1 || second != 2 {
		t.Errorf("P3.2: %d, %d", first, second)
	}
	if err := s.Release(1); err != api.OK || !slices.Equal(s.Order(), []uint32{1, 3}) {
		t.Errorf("P3.5: %d, %d", err, s.Order())
	}
	if i, err := s.Alloc(); i != 1 || err != api.OK || s.Generation(1) != 2 {
		t.Errorf("P3.4: %d, %d, generation %d", i, err, s.Generation(1))
	}
}

// TestSequences runs all sequences of up to seven calls on three slots.
func TestSequences(t *testing.T) {
	const capacity, longest = 3, 7
	calls := []int64{-1, 0, 1, 2, 3, 4}
	var extend func(sequence []int64)
	extend = func(sequence []int64) {
		p := newPair(t, capacity)
		for _, call := range sequence {
			p.step(call)
		}
		p.check()
		if len(sequence) == longest {
			return
		}
		for _, call := range calls {
			extend(append(slices.Clone(sequence), call))
		}
	}
	extend(nil)
}

// TestLongRuns alternates between phases with more allocations and phases with more releases, so that the allocators are often full and often empty.
func TestLongRuns(t *testing.T) {
	for _, capacity := range []int{1, 2, 5, 16, 33} {
		p := newPair(t, capacity)
		x := uint64(capacity)
		for round := range 4000 {
			x = x*6364136223846793005 + 1442695040888963407
			r := int(x >> 40)
			mostlyAlloc := round/(4*capacity)%2 == 0
			if (r%4 == 0) != mostlyAlloc {
				p.step(-1)
			} else {
				p.step(int64(r / 4 % (capacity + 2)))
			}
			p.check()
		}
	}
}

func TestReleaseOrder(t *testing.T) {
	p := newPair(t, 6)
	for range 5 {
		p.step(-1)
	}
	for _, i := range []int64{2, 5, 1, 4} {
		p.step(i)
	}
	if got := p.s.Order(); !slices.Equal(got, []uint32{4, 1, 5, 2, 6}) {
		t.Errorf("P3.5: %d", got)
	}
	for _, want := range []uint32{4, 1, 5, 2, 6} {
		if i, err := p.s.Alloc(); i != want || err != api.OK {
			t.Errorf("P3.2: %d, %d; want %d", i, err, want)
		}
	}
	if i, err := p.s.Alloc(); i != 0 || err != api.ErrFull || len(p.s.Order()) != 0 {
		t.Errorf("P3.2: full: %d, %d", i, err)
	}
}

func TestFullKeepsState(t *testing.T) {
	p := newPair(t, 4)
	for range 7 {
		p.step(-1)
		p.check()
	}
	p.step(3)
	p.check()
	p.step(-1)
	p.check()
}

func TestReleaseInvalid(t *testing.T) {
	const capacity = 4
	for allocated := range capacity + 1 {
		p := newPair(t, capacity)
		for range allocated {
			p.step(-1)
		}
		for _, i := range strangers(capacity) {
			if err := p.s.Release(i); err != api.ErrFree {
				t.Errorf("P3.3: Release(%d): %d", i, err)
			}
			p.check()
		}
		for i := allocated + 1; i <= capacity; i++ {
			if err := p.s.Release(uint32(i)); err != api.ErrFree {
				t.Errorf("P3.3: Release(%d), never allocated: %d", i, err)
			}
			p.check()
		}
	}
}

func TestReleaseTwice(t *testing.T) {
	p := newPair(t, 3)
	p.step(-1)
	p.step(-1)
	for _, i := range []int64{1, 1, 2, 1, 2} {
		p.step(i)
		p.check()
	}
	if got := p.s.Order(); !slices.Equal(got, []uint32{2, 1, 3}) {
		t.Errorf("P3.3: %d", got)
	}
}

func TestAllSlots(t *testing.T) {
	s, _ := New(api.MaxSlots)
	for want := range uint32(api.MaxSlots) {
		if i, err := s.Alloc(); i != want+1 || err != api.OK {
			t.Fatalf("P3.2: %d, %d; want %d", i, err, want+1)
		}
	}
	if i, err := s.Alloc(); i != 0 || err != api.ErrFull || s.Free() != 0 || !s.Allocated(api.MaxSlots) {
		t.Errorf("P3.2: full: %d, %d, %d free", i, err, s.Free())
	}
	var want []uint32
	for i := uint32(1); i <= api.MaxSlots; i++ {
		if s.Release(i) != api.OK {
			t.Fatalf("P3.3: Release(%d)", i)
		}
		want = append(want, i)
	}
	slices.Reverse(want)
	if !slices.Equal(s.Order(), want) || s.Free() != api.MaxSlots || s.Generation(api.MaxSlots) != 1 {
		t.Errorf("P3.5: %d free", s.Free())
	}
}

// TestGenerationWraps sets a generation directly, because 2^32 calls would take too long.
func TestGenerationWraps(t *testing.T) {
	s, _ := New(2)
	s.states[0].generation = math.MaxUint32 - 1
	for _, want := range []uint32{math.MaxUint32, 0, 1} {
		i, err := s.Alloc()
		if i != 1 || err != api.OK || s.Generation(1) != want || !s.Allocated(1) {
			t.Errorf("P3.4: %d, %d, generation %d, want %d", i, err, s.Generation(1), want)
		}
		if s.Release(1) != api.OK || s.Generation(1) != want || s.Allocated(1) {
			t.Errorf("P3.4: released: generation %d, want %d", s.Generation(1), want)
		}
	}
}

func TestOrderIsNew(t *testing.T) {
	p := newPair(t, 4)
	p.step(-1)
	p.step(-1)
	p.step(1)
	order := p.s.Order()
	for i := range order {
		order[i] = 99
	}
	p.check()
	kept := p.s.Order()
	p.step(-1)
	p.step(2)
	if !slices.Equal(kept, []uint32{1, 3, 4}) {
		t.Errorf("P3.5: a result changed: %d", kept)
	}
}

func TestAllocatorsAreSeparate(t *testing.T) {
	p, q := newPair(t, 3), newPair(t, 3)
	for _, i := range []int64{-1, -1, 1} {
		p.step(i)
		q.check()
	}
	q.step(-1)
	p.check()
	q.check()
}
