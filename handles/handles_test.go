package handles

import (
	"math"
	"slices"
	"testing"

	"versionmap/api"
)

// model follows the wording of chapters 03 and 04: for each entry, it keeps what happened to it.
type model struct {
	entries []modelEntry
	now     int
}

type modelEntry struct {
	open     bool
	opens    uint64
	closedAt int // 0 if it was never closed
	value    uint32
}

func (m *model) handle(n int) uint64 {
	return m.entries[n].opens*(1<<32) + uint64(n+1)
}

// open takes the entry that was closed last, or, if none was closed, the least one that is not open.
func (m *model) open(value uint32) (uint64, api.Errno) {
	best := -1
	for n, e := range m.entries {
		if !e.open && (best < 0 || e.closedAt > m.entries[best].closedAt) {
			best = n
		}
	}
	if best < 0 {
		return 0, api.ErrFull
	}
	e := &m.entries[best]
	e.open, e.value = true, value
	e.opens++
	return m.handle(best), api.OK
}

// find returns the entry with the open handle h, or nil.
func (m *model) find(h uint64) *modelEntry {
	for n := range m.entries {
		if m.entries[n].open && m.handle(n) == h {
			return &m.entries[n]
		}
	}
	return nil
}

func (m *model) lookup(h uint64) (uint32, api.Errno) {
	e := m.find(h)
	if e == nil {
		return 0, api.ErrBadHandle
	}
	return e.value, api.OK
}

func (m *model) replace(h uint64, value uint32) api.Errno {
	e := m.find(h)
	if e == nil {
		return api.ErrBadHandle
	}
	e.value = value
	return api.OK
}

func (m *model) close(h uint64) (uint32, api.Errno) {
	e := m.find(h)
	if e == nil {
		return 0, api.ErrBadHandle
	}
	m.now++
	e.open, e.closedAt = false, m.now
	return e.value, api.OK
}

func (m *model) handles() []uint64 {
	var list []uint64
	for n, e := range m.entries {
		if e.open {
			list = append(list, m.handle(n))
		}
	}
	return list
}

// pair is a table with its model and all handles that were ever issued.
type pair struct {
	t      *testing.T
	table  *Table
	m      *model
	issued []uint64
}

func newPair(t *testing.T, capacity int) *pair {
	t.Helper()
	table, err := New(capacity)
	if table == nil || err != api.OK {
		t.Fatalf("P4.1: New(%d): %v, %d", capacity, table, err)
	}
	return &pair{t: t, table: table, m: &model{entries: make([]modelEntry, capacity)}}
}

func (p *pair) open(value uint32) uint64 {
	p.t.Helper()
	got, err := p.table.Open(value)
	want, wantErr := p.m.open(value)
	if got != want || err != wantErr {
		p.t.Fatalf("P4.2: Open(%d): %d, %d; want %d, %d", value, got, err, want, wantErr)
	}
	if err == api.OK && slices.Contains(p.issued, got) {
		p.t.Fatalf("P4.3: Open(%d): %d was issued before", value, got)
	}
	if err == api.OK {
		p.issued = append(p.issued, got)
	}
	return got
}

func (p *pair) replace(h uint64, value uint32) {
	p.t.Helper()
	if err, want := p.table.Replace(h, value), p.m.replace(h, value); err != want {
		p.t.Fatalf("P4.3: Replace(%d, %d): %d, want %d", h, value, err, want)
	}
}

func (p *pair) close(h uint64) {
	p.t.Helper()
	got, err := p.table.Close(h)
	want, wantErr := p.m.close(h)
	if got != want || err != wantErr {
		p.t.Fatalf("P4.3: Close(%d): %d, %d; want %d, %d", h, got, err, want, wantErr)
	}
}

func (p *pair) checkLookup(h uint64) {
	p.t.Helper()
	got, err := p.table.Lookup(h)
	want, wantErr := p.m.lookup(h)
	if got != want || err != wantErr {
		p.t.Fatalf("P4.3: Lookup(%d): %d, %d; want %d, %d", h, got, err, want, wantErr)
	}
}

// check compares everything that the table shows.
func (p *pair) check() {
	p.t.Helper()
	want := p.m.handles()
	if got := p.table.Len(); got != len(want) {
		p.t.Fatalf("P4.1: Len: %d, want %d", got, len(want))
	}
	if got := p.table.Handles(); !slices.Equal(got, want) {
		p.t.Fatalf("P4.4: Handles: %d, want %d", got, want)
	}
	for _, h := range p.issued {
		p.checkLookup(h)
	}
	for _, h := range p.strangers() {
		p.checkLookup(h)
	}
}

// strangers returns words that differ from an issued handle in one half or in one bit, or that have no slot as their lower half. The model decides which of them are open.
func (p *pair) strangers() []uint64 {
	capacity := uint64(len(p.m.entries))
	list := []uint64{0, 1 << 32, 1<<32 + capacity + 1, 1<<32 + api.MaxTable + 1, 1<<32 + 1<<16 + 1, 1 << 63, math.MaxUint32, math.MaxUint64, math.MaxUint64 - math.MaxUint32}
	for i := uint64(1); i <= capacity; i++ {
		list = append(list, i, 1<<32+i, math.MaxUint32<<32+i)
	}
	if len(p.issued) == 0 {
		return list
	}
	last := p.issued[len(p.issued)-1]
	for bit := range 64 {
		list = append(list, last^1<<bit)
	}
	return append(list, last+1<<32, last-1<<32, last+1, last-1, last>>32, last<<32, last>>32|last<<32, -last)
}

func TestNewLimits(t *testing.T) {
	for _, n := range []int{0, -1, -2, -api.MaxTable, api.MaxTable + 1, 2 * api.MaxTable, api.MaxSlots, api.MaxSlots + 1, math.MaxInt32, math.MinInt32, math.MaxInt, math.MinInt} {
		if table, err := New(n); table != nil || err != api.ErrInvalid {
			t.Errorf("P4.1: New(%d): %v, %d", n, table, err)
		}
	}
	for _, n := range []int{1, 2, 3, 255, 256, 257, api.MaxTable - 1, api.MaxTable} {
		table, err := New(n)
		if table == nil || err != api.OK {
			t.Fatalf("P4.1: New(%d): %v, %d", n, table, err)
		}
		if table.Len() != 0 || len(table.Handles()) != 0 {
			t.Errorf("P4.1: New(%d): %d open handles, %d", n, table.Len(), table.Handles())
		}
		if v, err := table.Lookup(1); v != 0 || err != api.ErrBadHandle {
			t.Errorf("P4.3: New(%d): Lookup(1): %d, %d", n, v, err)
		}
	}
}

func TestExample(t *testing.T) {
	table, _ := New(2)
	first, err := table.Open(7)
	if first != 1<<32+1 || err != api.OK {
		t.Errorf("P4.2: %d, %d", first, err)
	}
	if v, err := table.Close(first); v != 7 || err != api.OK {
		t.Errorf("P4.3: Close: %d, %d", v, err)
	}
	second, err := table.Open(8)
	if second != 2<<32+1 || err != api.OK {
		t.Errorf("P4.2: %d, %d", second, err)
	}
	if v, err := table.Lookup(first); v != 0 || err != api.ErrBadHandle {
		t.Errorf("P4.3: a closed handle: %d, %d", v, err)
	}
	if v, err := table.Lookup(second); v != 8 || err != api.OK {
		t.Errorf("P4.3: Lookup: %d, %d", v, err)
	}
}

// TestSequences runs all sequences of up to six calls on two entries. The calls take the first three issued handles, and before these are issued a word that is no handle.
func TestSequences(t *testing.T) {
	const capacity, longest, known = 2, 6, 3
	run := func(sequence []int) {
		p := newPair(t, capacity)
		for n, call := range sequence {
			h := uint64(0)
			if which := call / 2; call >= 0 && which < len(p.issued) {
				h = p.issued[which]
			}
			switch {
			case call < 0:
				p.open(uint32(n + 10))
			case call%2 == 0:
				p.replace(h, uint32(n+20))
			default:
				p.close(h)
			}
		}
		p.check()
	}
	var extend func(sequence []int)
	extend = func(sequence []int) {
		run(sequence)
		if len(sequence) == longest {
			return
		}
		for call := -1; call < 2*known; call++ {
			extend(append(slices.Clone(sequence), call))
		}
	}
	extend(nil)
}

// TestLongRuns alternates between phases with more calls of Open and phases with more calls of Close, so that the tables are often full and often empty.
func TestLongRuns(t *testing.T) {
	for _, capacity := range []int{1, 2, 5, 16} {
		p := newPair(t, capacity)
		x := uint64(capacity)
		for round := range 1500 {
			x = x*6364136223846793005 + 1442695040888963407
			r := int(x >> 40)
			mostlyOpen := round/(4*capacity)%2 == 0
			switch {
			case (r%4 == 0) != mostlyOpen:
				p.open(uint32(x >> 32))
			case len(p.issued) == 0:
				p.close(0)
			default:
				recent := min(len(p.issued), 2*capacity)
				h := p.issued[len(p.issued)-1-r/4%recent]
				p.replace(h, uint32(x>>16))
				p.close(h)
			}
			p.check()
		}
	}
}

func TestValues(t *testing.T) {
	values := []uint32{0, 1, 2, math.MaxInt32, 1 << 31, math.MaxUint32}
	p := newPair(t, len(values))
	for _, v := range values {
		p.open(v)
		p.check()
	}
	for n, h := range p.issued {
		p.replace(h, values[len(values)-1-n])
		p.check()
	}
	for _, h := range p.issued {
		p.close(h)
		p.check()
	}
}

// TestSameValue holds that each handle has a value of its own, also if two values are equal.
func TestSameValue(t *testing.T) {
	p := newPair(t, 3)
	a, b := p.open(5), p.open(5)
	p.replace(a, 6)
	p.check()
	p.close(b)
	p.check()
	if v, err := p.table.Lookup(a); v != 6 || err != api.OK {
		t.Errorf("P4.3: %d, %d", v, err)
	}
}

// TestBadHandles tries every call with every word that is no open handle, and holds that nothing changes.
func TestBadHandles(t *testing.T) {
	p := newPair(t, 4)
	tryAll := func() {
		for _, h := range slices.Concat(p.strangers(), p.issued) {
			if p.m.find(h) != nil {
				continue
			}
			p.replace(h, 77)
			p.close(h)
		}
		p.check()
	}
	tryAll()
	a, b := p.open(1), p.open(2)
	tryAll()
	p.close(a)
	tryAll()
	p.open(3)
	tryAll()
	p.close(b)
	p.open(4)
	p.open(5)
	p.open(6)
	tryAll()
}

func TestFull(t *testing.T) {
	p := newPair(t, 3)
	for n := range uint32(6) {
		p.open(n)
		p.check()
	}
	if h, err := p.table.Open(9); h != 0 || err != api.ErrFull {
		t.Errorf("P4.2: full: %d, %d", h, err)
	}
	p.close(p.issued[1])
	if h := p.open(10); h != 2<<32+2 {
		t.Errorf("P4.2: the handle of the released entry: %d", h)
	}
	p.check()
}

// TestClosedTwice closes a handle again while its entry is free, and while it belongs to another handle.
func TestClosedTwice(t *testing.T) {
	p := newPair(t, 2)
	h := p.open(1)
	p.close(h)
	p.close(h)
	p.check()
	p.open(2)
	p.close(h)
	p.check()
	p.open(3)
	p.open(4)
	p.check()
}

// TestHandlesOrder has greater generations at the lesser entries, so that the order of the words is not that of the entries.
func TestHandlesOrder(t *testing.T) {
	p := newPair(t, 4)
	for range 4 {
		p.open(0)
	}
	for rounds, h := range slices.Clone(p.issued) {
		for range 4 - rounds {
			p.close(h)
			h = p.open(0)
		}
	}
	want := []uint64{5<<32 + 1, 4<<32 + 2, 3<<32 + 3, 2<<32 + 4}
	if got := p.table.Handles(); !slices.Equal(got, want) {
		t.Errorf("P4.4: %d, want %d", got, want)
	}
	p.close(want[1])
	p.close(want[0])
	if got := p.table.Handles(); !slices.Equal(got, want[2:]) {
		t.Errorf("P4.4: %d, want %d", got, want[2:])
	}
	p.check()
}

func TestGreatestCapacity(t *testing.T) {
	table, _ := New(api.MaxTable)
	for n := range uint32(api.MaxTable) {
		if h, err := table.Open(n * 3); h != 1<<32+uint64(n)+1 || err != api.OK {
			t.Fatalf("P4.2: %d, %d", h, err)
		}
	}
	if h, err := table.Open(0); h != 0 || err != api.ErrFull || table.Len() != api.MaxTable {
		t.Errorf("P4.2: full: %d, %d, %d open", h, err, table.Len())
	}
	for n, h := range table.Handles() {
		if h != 1<<32+uint64(n)+1 {
			t.Fatalf("P4.4: %d at %d", h, n)
		}
		if v, err := table.Close(h); v != uint32(n)*3 || err != api.OK {
			t.Fatalf("P4.3: Close(%d): %d, %d", h, v, err)
		}
	}
	if table.Len() != 0 || len(table.Handles()) != 0 {
		t.Errorf("P4.1: %d open", table.Len())
	}
	if h, err := table.Open(1); h != 2<<32+api.MaxTable || err != api.OK {
		t.Errorf("P4.2: %d, %d", h, err)
	}
}

func TestHandlesAreNew(t *testing.T) {
	p := newPair(t, 4)
	a, b := p.open(1), p.open(2)
	kept := p.table.Handles()
	list := p.table.Handles()
	for n := range list {
		list[n] = 99
	}
	p.check()
	p.close(a)
	p.open(3)
	p.open(4)
	p.check()
	if !slices.Equal(kept, []uint64{a, b}) {
		t.Errorf("P4.4: a result changed: %d", kept)
	}
}

func TestTablesAreSeparate(t *testing.T) {
	p, q := newPair(t, 3), newPair(t, 3)
	h := p.open(1)
	p.open(2)
	q.check()
	q.open(3)
	p.close(h)
	p.check()
	q.check()
}
