package audit

import (
	"math"
	"slices"
	"testing"

	"versionmap/api"
	"versionmap/arena"
)

// model follows the wording of chapter 06. It looks for everything anew each time it needs it.
type model struct {
	d     api.Dump
	roots []uint32
}

func (m model) isSlot(i uint32) bool {
	return i != 0 && int64(i) <= int64(len(m.d.Slots))
}

func (m model) allocated(i uint32) bool {
	return m.isSlot(i) && m.d.Slots[i-1].Allocated
}

// children returns the children of slot i, or nothing if it is not allocated.
func (m model) children(i uint32) []uint32 {
	if !m.allocated(i) {
		return nil
	}
	return []uint32{m.d.Slots[i-1].Node.Left, m.d.Slots[i-1].Node.Right}
}

func (m model) numbers() []uint32 {
	var numbers []uint32
	for i := range len(m.d.Slots) {
		numbers = append(numbers, uint32(i+1))
	}
	return numbers
}

func occurrences(list []uint32, i uint32) int {
	n := 0
	for _, x := range list {
		if x == i {
			n++
		}
	}
	return n
}

func (m model) inEdges() []int {
	var edges []int
	for _, i := range m.numbers() {
		n := 0
		for _, parent := range m.numbers() {
			n += occurrences(m.children(parent), i)
		}
		edges = append(edges, n)
	}
	return edges
}

func (m model) reachable() []uint32 {
	var found []uint32
	for {
		i := slices.IndexFunc(m.numbers(), func(i uint32) bool {
			if !m.allocated(i) || slices.Contains(found, i) {
				return false
			}
			isChild := slices.ContainsFunc(found, func(parent uint32) bool {
				return slices.Contains(m.children(parent), i)
			})
			return isChild || slices.Contains(m.roots, i)
		})
		if i < 0 {
			slices.Sort(found)
			return found
		}
		found = append(found, uint32(i+1))
	}
}

func (m model) check() []api.Finding {
	var findings []api.Finding
	for _, i := range m.numbers() {
		findings = append(findings, m.checkSlot(i)...)
	}
	for _, x := range m.d.Free {
		if !m.isSlot(x) {
			findings = append(findings, api.Finding{Kind: 6, Slot: x})
		}
	}
	for _, r := range m.roots {
		if r != 0 && !m.allocated(r) {
			findings = append(findings, api.Finding{Kind: 7, Slot: r})
		}
	}
	return findings
}

func (m model) checkSlot(i uint32) []api.Finding {
	var findings []api.Finding
	s := m.d.Slots[i-1]
	w, h := 1, occurrences(m.d.Free, i)
	if s.Allocated {
		w = 0
	}
	if w != h {
		findings = append(findings, api.Finding{Kind: 1, Slot: i, Want: w, Have: h})
	}
	size := uint64(1)
	for _, c := range m.children(i) {
		if m.allocated(c) {
			size += uint64(m.d.Slots[c-1].Node.Size)
		} else if c != 0 {
			findings = append(findings, api.Finding{Kind: 2, Slot: i, Want: 0, Have: int(c)})
		}
	}
	if s.Allocated && int(size) != s.Node.Size {
		findings = append(findings, api.Finding{Kind: 3, Slot: i, Want: int(size), Have: s.Node.Size})
	}
	w, h = 0, s.Count
	if s.Allocated {
		w = m.inEdges()[i-1] + occurrences(m.roots, i)
	}
	if w != h {
		findings = append(findings, api.Finding{Kind: 4, Slot: i, Want: w, Have: h})
	}
	if s.Allocated && !slices.Contains(m.reachable(), i) {
		findings = append(findings, api.Finding{Kind: 5, Slot: i})
	}
	return findings
}

// compare runs all functions on a dump.
func compare(t *testing.T, d api.Dump, roots []uint32) {
	t.Helper()
	m := model{d, roots}
	if got, want := InEdges(d), m.inEdges(); !slices.Equal(got, want) {
		t.Fatalf("P6.1: %v: %d, want %d", d, got, want)
	}
	if got, want := Reachable(d, roots), m.reachable(); !slices.Equal(got, want) {
		t.Fatalf("P6.2: %v, roots %d: %d, want %d", d, roots, got, want)
	}
	if got, want := Check(d, roots), m.check(); !slices.Equal(got, want) {
		t.Fatalf("P6.3: %v, roots %d: %v, want %v", d, roots, got, want)
	}
}

// node returns an allocated slot.
func node(left, right uint32, size, count int) api.Slot {
	return api.Slot{Allocated: true, Count: count, Generation: 1, Node: api.Node{Left: left, Right: right, Size: size}}
}

// freed returns a free slot whose content should be zero, but is not.
func freed(left, right uint32, size, count int) api.Slot {
	s := node(left, right, size, count)
	s.Allocated = false
	return s
}

// dump returns a dump with these slots, and with the free ones of them in its list.
func dump(slots ...api.Slot) api.Dump {
	d := api.Dump{Slots: slots}
	for i, s := range slots {
		if !s.Allocated {
			d.Free = append(d.Free, uint32(i+1))
		}
	}
	return d
}

// strangers returns numbers that are not slots of a dump with so many slots. Those that are slots modulo 2^16 or as a signed number are among them.
func strangers(slots int) []uint32 {
	n := uint32(slots)
	return []uint32{n + 1, n + 2, 1 << 16, 1<<16 + 1, 1 << 31, 1<<31 + 1, math.MaxUint32 - 1, math.MaxUint32}
}

func TestExample(t *testing.T) {
	d := api.Dump{Slots: []api.Slot{{Allocated: true}}}
	want := []api.Finding{{Kind: api.FindingSize, Slot: 1, Want: 1, Have: 0}, {Kind: api.FindingLeak, Slot: 1}}
	if got := Check(d, nil); !slices.Equal(got, want) {
		t.Errorf("P6.3: %v", got)
	}
}

func TestInEdges(t *testing.T) {
	cases := []struct {
		d    api.Dump
		want []int
	}{
		{dump(), nil},
		{dump(api.Slot{}), []int{0}},
		{dump(node(0, 0, 1, 1)), []int{0}},
		{dump(node(1, 0, 1, 1)), []int{1}},
		{dump(node(1, 1, 1, 1)), []int{2}},
		{dump(freed(1, 1, 1, 1)), []int{0}},
		{dump(node(2, 0, 1, 1), node(0, 1, 1, 1)), []int{1, 1}},
		{dump(node(2, 2, 1, 1), node(0, 0, 1, 1)), []int{0, 2}},
		{dump(node(2, 2, 1, 1), api.Slot{}), []int{0, 2}},
		{dump(freed(2, 2, 1, 1), node(3, 0, 1, 1), node(0, 2, 1, 1)), []int{0, 1, 1}},
		{dump(node(3, 2, 1, 1), node(3, 3, 1, 1), node(4, 5, 1, 1)), []int{0, 1, 3}},
	}
	for _, c := range cases {
		if got := InEdges(c.d); !slices.Equal(got, c.want) {
			t.Errorf("P6.1: %v: %d, want %d", c.d, got, c.want)
		}
	}
}

func TestReachable(t *testing.T) {
	// Slot 1 has the children 2 and 3, 4 is free, 5 and 6 are a circle, and 7 is a child of itself and has the child 4.
	d := dump(
		node(2, 3, 3, 1), node(0, 0, 1, 1), node(0, 0, 1, 1), freed(1, 5, 0, 0),
		node(6, 0, 1, 1), node(0, 5, 1, 1), node(4, 7, 1, 1), node(99, 0, 1, 1),
	)
	cases := []struct{ roots, want []uint32 }{
		{nil, nil},
		{[]uint32{0}, nil},
		{[]uint32{1}, []uint32{1, 2, 3}},
		{[]uint32{2}, []uint32{2}},
		{[]uint32{3, 2}, []uint32{2, 3}},
		{[]uint32{2, 2, 2}, []uint32{2}},
		{[]uint32{4}, nil},
		{[]uint32{5}, []uint32{5, 6}},
		{[]uint32{6, 0, 1}, []uint32{1, 2, 3, 5, 6}},
		{[]uint32{7}, []uint32{7}},
		{[]uint32{8}, []uint32{8}},
		{strangers(8), nil},
		{[]uint32{9, 8, 7, 6, 5, 4, 3, 2, 1, 0}, []uint32{1, 2, 3, 5, 6, 7, 8}},
	}
	for _, c := range cases {
		if got := Reachable(d, c.roots); !slices.Equal(got, c.want) {
			t.Errorf("P6.2: roots %d: %d, want %d", c.roots, got, c.want)
		}
	}
}

// TestKinds has, for each kind, dumps with findings of that kind only, and dumps that are nearly like them and have none.
func TestKinds(t *testing.T) {
	leaf := node(0, 0, 1, 1)
	slots := func(slots ...api.Slot) []api.Slot { return slots }
	cases := []struct {
		name        string
		slots       []api.Slot
		free, roots []uint32
		want        []api.Finding
	}{
		{"nothing", nil, nil, nil, nil},
		{"empty roots", nil, nil, []uint32{0, 0}, nil},
		{"all free", slots(api.Slot{}, api.Slot{}), []uint32{2, 1}, nil, nil},
		{"one node", slots(leaf), nil, []uint32{1}, nil},
		{"held twice", slots(node(0, 0, 1, 2)), nil, []uint32{1, 1}, nil},
		{"a shared child", slots(leaf, node(1, 0, 2, 1), node(0, 2, 3, 2), node(3, 3, 7, 1)), nil, []uint32{4}, nil},
		{"content of a free slot", slots(freed(1, 9, 5, 0)), []uint32{1}, nil, nil},

		{"free, not listed", slots(api.Slot{}), nil, nil, []api.Finding{{Kind: 1, Slot: 1, Want: 1}}},
		{"free, listed twice", slots(api.Slot{}), []uint32{1, 1}, nil, []api.Finding{{Kind: 1, Slot: 1, Want: 1, Have: 2}}},
		{"allocated and listed", slots(leaf), []uint32{1}, []uint32{1}, []api.Finding{{Kind: 1, Slot: 1, Have: 1}}},
		{"allocated and listed often", slots(leaf), []uint32{1, 1, 1}, []uint32{1}, []api.Finding{{Kind: 1, Slot: 1, Have: 3}}},

		{"left is free", slots(node(2, 0, 1, 1), api.Slot{}), []uint32{2}, []uint32{1}, []api.Finding{{Kind: 2, Slot: 1, Have: 2}}},
		{"right is free", slots(node(0, 2, 1, 1), api.Slot{}), []uint32{2}, []uint32{1}, []api.Finding{{Kind: 2, Slot: 1, Have: 2}}},
		{"both are free", slots(node(2, 2, 1, 1), api.Slot{}), []uint32{2}, []uint32{1}, []api.Finding{{Kind: 2, Slot: 1, Have: 2}, {Kind: 2, Slot: 1, Have: 2}}},
		{"left comes first", slots(node(3, 2, 1, 1), api.Slot{}), []uint32{2}, []uint32{1}, []api.Finding{{Kind: 2, Slot: 1, Have: 3}, {Kind: 2, Slot: 1, Have: 2}}},
		{"a great number", slots(node(math.MaxUint32, 0, 1, 1)), nil, []uint32{1}, []api.Finding{{Kind: 2, Slot: 1, Have: math.MaxUint32}}},
		{"the size of a free child", slots(node(2, 0, 1, 1), freed(0, 0, 7, 0)), []uint32{2}, []uint32{1}, []api.Finding{{Kind: 2, Slot: 1, Have: 2}}},

		{"size 0", slots(node(0, 0, 0, 1)), nil, []uint32{1}, []api.Finding{{Kind: 3, Slot: 1, Want: 1}}},
		{"size below 0", slots(node(0, 0, -1, 1)), nil, []uint32{1}, []api.Finding{{Kind: 3, Slot: 1, Want: 1, Have: -1}}},
		{"the size without the children", slots(node(2, 0, 1, 1), leaf), nil, []uint32{1}, []api.Finding{{Kind: 3, Slot: 1, Want: 2, Have: 1}}},
		{"a child that counts twice", slots(node(2, 2, 2, 1), node(0, 0, 1, 2)), nil, []uint32{1}, []api.Finding{{Kind: 3, Slot: 1, Want: 3, Have: 2}}},
		{"a wrong size of a child", slots(node(2, 0, 2, 1), node(0, 0, 4, 1)), nil, []uint32{1}, []api.Finding{{Kind: 3, Slot: 1, Want: 5, Have: 2}, {Kind: 3, Slot: 2, Want: 1, Have: 4}}},
		{"its own child", slots(node(1, 0, 5, 2)), nil, []uint32{1}, []api.Finding{{Kind: 3, Slot: 1, Want: 6, Have: 5}}},

		{"count too small", slots(node(0, 0, 1, 0)), nil, []uint32{1}, []api.Finding{{Kind: 4, Slot: 1, Want: 1}}},
		{"count below 0", slots(node(0, 0, 1, -3)), nil, []uint32{1}, []api.Finding{{Kind: 4, Slot: 1, Want: 1, Have: -3}}},
		{"count too great", slots(node(0, 0, 1, 3)), nil, []uint32{1, 1}, []api.Finding{{Kind: 4, Slot: 1, Want: 2, Have: 3}}},
		{"roots and fields", slots(node(2, 2, 3, 1), node(0, 0, 1, 2)), nil, []uint32{1, 2}, []api.Finding{{Kind: 4, Slot: 2, Want: 3, Have: 2}}},
		{"fields of a free slot", slots(leaf, freed(1, 1, 0, 0)), []uint32{2}, []uint32{1}, nil},
		{"count of a free slot", slots(api.Slot{Count: 2}), []uint32{1}, nil, []api.Finding{{Kind: 4, Slot: 1, Have: 2}}},
		{"references to a free slot", slots(node(2, 0, 1, 1), api.Slot{Count: 2}), []uint32{2}, []uint32{1, 2}, []api.Finding{{Kind: 2, Slot: 1, Have: 2}, {Kind: 4, Slot: 2, Have: 2}, {Kind: 7, Slot: 2}}},

		{"a leak", slots(node(0, 0, 1, 0)), nil, nil, []api.Finding{{Kind: 5, Slot: 1}}},
		{"a leak with a child", slots(leaf, node(1, 0, 2, 0)), nil, nil, []api.Finding{{Kind: 5, Slot: 1}, {Kind: 5, Slot: 2}}},
		{"a leak above a node", slots(node(0, 0, 1, 2), node(1, 0, 2, 0)), nil, []uint32{1}, []api.Finding{{Kind: 5, Slot: 2}}},

		{"no slots, but free ones", nil, []uint32{2, 0, 1, 2}, nil, []api.Finding{{Kind: 6, Slot: 2}, {Kind: 6}, {Kind: 6, Slot: 1}, {Kind: 6, Slot: 2}}},
		{"free numbers that are no slots", slots(api.Slot{}), []uint32{math.MaxUint32, 1, 0, 2}, nil, []api.Finding{{Kind: 6, Slot: math.MaxUint32}, {Kind: 6}, {Kind: 6, Slot: 2}}},

		{"no slots, but roots", nil, nil, []uint32{2, 0, 1, 2}, []api.Finding{{Kind: 7, Slot: 2}, {Kind: 7, Slot: 1}, {Kind: 7, Slot: 2}}},
		{"a free root", slots(api.Slot{}), []uint32{1}, []uint32{1, 1}, []api.Finding{{Kind: 7, Slot: 1}, {Kind: 7, Slot: 1}}},
		{"roots that are no slots", slots(leaf), nil, []uint32{math.MaxUint32, 1, 0, 2}, []api.Finding{{Kind: 7, Slot: math.MaxUint32}, {Kind: 7, Slot: 2}}},
	}
	for _, c := range cases {
		if got := Check(api.Dump{Slots: c.slots, Free: c.free}, c.roots); !slices.Equal(got, c.want) {
			t.Errorf("P6.3: %s: %v, want %v", c.name, got, c.want)
		}
	}
}

// TestOrder has all findings that a slot can have at once.
func TestOrder(t *testing.T) {
	d := api.Dump{
		Slots: []api.Slot{node(9, 3, 7, 8), node(1, 8, 5, 4), {Count: 6}},
		Free:  []uint32{9, 2, 1, 2, 0},
	}
	want := []api.Finding{
		{Kind: api.FindingFree, Slot: 1, Have: 1},
		{Kind: api.FindingChild, Slot: 1, Have: 9},
		{Kind: api.FindingChild, Slot: 1, Have: 3},
		{Kind: api.FindingSize, Slot: 1, Want: 1, Have: 7},
		{Kind: api.FindingCount, Slot: 1, Want: 1, Have: 8},
		{Kind: api.FindingLeak, Slot: 1},
		{Kind: api.FindingFree, Slot: 2, Have: 2},
		{Kind: api.FindingChild, Slot: 2, Have: 8},
		{Kind: api.FindingSize, Slot: 2, Want: 8, Have: 5},
		{Kind: api.FindingCount, Slot: 2, Want: 0, Have: 4},
		{Kind: api.FindingLeak, Slot: 2},
		{Kind: api.FindingFree, Slot: 3, Want: 1},
		{Kind: api.FindingCount, Slot: 3, Want: 0, Have: 6},
		{Kind: api.FindingRange, Slot: 9},
		{Kind: api.FindingRange, Slot: 0},
		{Kind: api.FindingRoot, Slot: 7},
		{Kind: api.FindingRoot, Slot: 3},
		{Kind: api.FindingRoot, Slot: 4},
	}
	if got := Check(d, []uint32{7, 3, 0, 4}); !slices.Equal(got, want) {
		t.Errorf("P6.3: %v, want %v", got, want)
	}
}

// TestSizeWraps has Sizes whose sum needs more than 64 bits.
func TestSizeWraps(t *testing.T) {
	const most, least = math.MaxInt, math.MinInt
	for _, c := range []struct{ left, right, want int }{
		{most, 0, least}, {most, most, -1}, {least, least, 1}, {least, most, 0}, {-1, 0, 0}, {-1, -1, -1}, {most, 1, least + 1}, {least, -1, least},
	} {
		d := dump(node(2, 3, c.want, 1), node(0, 0, c.left, 1), node(0, 0, c.right, 1))
		findings := slices.DeleteFunc(Check(d, []uint32{1}), func(f api.Finding) bool { return f.Slot != 1 })
		if len(findings) != 0 {
			t.Errorf("P6.3: %d and %d: %v", c.left, c.right, findings)
		}
		d.Slots[0].Node.Size = c.want ^ 1
		findings = slices.DeleteFunc(Check(d, []uint32{1}), func(f api.Finding) bool { return f.Slot != 1 })
		if !slices.Equal(findings, []api.Finding{{Kind: api.FindingSize, Slot: 1, Want: c.want, Have: c.want ^ 1}}) {
			t.Errorf("P6.3: %d and %d: %v", c.left, c.right, findings)
		}
	}
}

// TestOtherFields holds that nothing else in a dump matters.
func TestOtherFields(t *testing.T) {
	d := dump(node(2, 3, 3, 1), node(0, 0, 1, 1), node(0, 0, 1, 1), freed(1, 2, 3, 0))
	for i := range d.Slots {
		d.Slots[i].Generation = math.MaxUint32 - uint32(i)
		n := &d.Slots[i].Node
		n.Key, n.Value, n.Sum, n.Min, n.Max = 1, math.MinInt64, -1, math.MaxInt64, math.MinInt64
	}
	if got := Check(d, []uint32{1}); len(got) != 0 {
		t.Errorf("P6.3: %v", got)
	}
	compare(t, d, []uint32{1})
}

// lists returns all lists of up to longest numbers below limit.
func lists(limit uint32, longest int) [][]uint32 {
	all := [][]uint32{nil}
	for start := 0; longest > 0; longest-- {
		end := len(all)
		for _, list := range all[start:end] {
			for x := range limit {
				all = append(all, append(slices.Clone(list), x))
			}
		}
		start = end
	}
	return all
}

// TestSmallDumps runs all dumps of up to two slots of a few kinds, with all lists of up to two numbers.
func TestSmallDumps(t *testing.T) {
	for slots := range 3 {
		numbers := lists(uint32(slots+2), 2)
		var kinds []api.Slot
		for _, children := range numbers {
			if len(children) == 2 {
				kinds = append(kinds, node(children[0], children[1], 1, 1), freed(children[0], children[1], 2, 0), node(children[0], children[1], 2, 2))
			}
		}
		var extend func(list []api.Slot)
		extend = func(list []api.Slot) {
			if len(list) < slots {
				for _, kind := range kinds {
					extend(append(slices.Clone(list), kind))
				}
				return
			}
			for _, free := range numbers {
				for _, roots := range numbers {
					compare(t, api.Dump{Slots: list, Free: free}, roots)
				}
			}
		}
		extend(nil)
	}
}

// source is a sequence of numbers that look random.
type source struct{ x uint64 }

func (s *source) next(n int) int {
	s.x = s.x*6364136223846793005 + 1442695040888963407
	return int(s.x>>33) % n
}

func (s *source) slot(slots int) uint32 {
	return uint32(s.next(slots + 2))
}

func (s *source) list(slots, longest int) []uint32 {
	var list []uint32
	for range s.next(longest + 1) {
		list = append(list, s.slot(slots))
	}
	return list
}

func TestArbitraryDumps(t *testing.T) {
	s := &source{x: 6}
	for range 20000 {
		slots := s.next(7)
		var d api.Dump
		for range slots {
			slot := node(s.slot(slots), s.slot(slots), s.next(4), s.next(4))
			slot.Allocated = s.next(3) > 0
			d.Slots = append(d.Slots, slot)
		}
		d.Free = s.list(slots, 4)
		compare(t, d, s.list(slots, 4))
	}
}

func TestStrangers(t *testing.T) {
	for _, x := range strangers(3) {
		d := dump(node(x, 2, 2, 1), node(0, x, 1, 1), api.Slot{})
		d.Free = append(d.Free, x)
		compare(t, d, []uint32{x, 1})
		if got := Reachable(d, []uint32{x}); len(got) != 0 {
			t.Errorf("P6.2: %d: %d", x, got)
		}
	}
}

// chain returns a dump in which each slot has the next one as a child, and the last one has the child end.
func chain(slots int, right bool, end uint32) api.Dump {
	d := api.Dump{Slots: make([]api.Slot, 0, slots)}
	for i := range slots {
		next := uint32(i + 2)
		if i == slots-1 {
			next = end
		}
		s := node(next, 0, slots-i, 1)
		if right {
			s = node(0, next, slots-i, 1)
		}
		d.Slots = append(d.Slots, s)
	}
	return d
}

func TestLongPaths(t *testing.T) {
	const slots = 1 << 18
	for _, right := range []bool{false, true} {
		d := chain(slots, right, 0)
		if got := Reachable(d, []uint32{2}); len(got) != slots-1 || got[0] != 2 || got[slots-2] != slots {
			t.Errorf("P6.2: %d slots", len(got))
		}
		if got := Check(d, []uint32{1}); len(got) != 0 {
			t.Errorf("P6.3: %d findings", len(got))
		}
		if got := Check(d, []uint32{2}); !slices.Equal(got, []api.Finding{
			{Kind: api.FindingCount, Slot: 1, Have: 1}, {Kind: api.FindingLeak, Slot: 1}, {Kind: api.FindingCount, Slot: 2, Want: 2, Have: 1},
		}) {
			t.Errorf("P6.3: %d findings", len(got))
		}
		circle := chain(slots, right, 1)
		if got := Reachable(circle, []uint32{slots}); len(got) != slots {
			t.Errorf("P6.2: a circle: %d slots", len(got))
		}
		if got := Check(circle, nil); len(got) != slots+1 || got[slots-1] != (api.Finding{Kind: api.FindingSize, Slot: slots, Want: slots + 1, Have: 1}) {
			t.Errorf("P6.3: a circle: %d findings", len(got))
		}
	}
}

// TestManyPaths has a dump with 2^1000 paths.
func TestManyPaths(t *testing.T) {
	const slots = 1000
	var d api.Dump
	for i := range slots {
		size := int(uint64(1)<<min(slots-i, 64) - 1)
		d.Slots = append(d.Slots, node(uint32(i+2), uint32(i+2), size, 2))
	}
	d.Slots[slots-1].Node.Left, d.Slots[slots-1].Node.Right = 0, 0
	if got := Reachable(d, []uint32{1}); len(got) != slots {
		t.Errorf("P6.2: %d slots", len(got))
	}
	if got := Check(d, []uint32{1, 1}); len(got) != 0 {
		t.Errorf("P6.3: %v", got)
	}
}

// TestLongLists has lists that are too long to be searched once for each slot.
func TestLongLists(t *testing.T) {
	const slots = 1 << 20
	d := api.Dump{Slots: make([]api.Slot, slots)}
	var roots []uint32
	for i := uint32(slots); i > 0; i-- {
		if i%2 == 0 {
			d.Slots[i-1] = node(0, 0, 1, 2)
			roots = append(roots, i, i)
		} else {
			d.Free = append(d.Free, i)
		}
	}
	if got := Check(d, roots); len(got) != 0 {
		t.Errorf("P6.3: %d findings", len(got))
	}
	if got := Reachable(d, roots); len(got) != slots/2 || !slices.IsSorted(got) {
		t.Errorf("P6.2: %d slots", len(got))
	}
}

func TestArgumentsAreKept(t *testing.T) {
	d := dump(node(2, 2, 1, 1), node(9, 3, 1, 1), freed(1, 1, 1, 1), node(4, 1, 0, 0))
	d.Free = append(d.Free, 9, 4)
	roots := []uint32{4, 0, 1, 7, 3, 1}
	slots, free, held := slices.Clone(d.Slots), slices.Clone(d.Free), slices.Clone(roots)
	edges, reachable, findings := InEdges(d), Reachable(d, roots), Check(d, roots)
	if !slices.Equal(d.Slots, slots) || !slices.Equal(d.Free, free) || !slices.Equal(roots, held) {
		t.Errorf("P6.3: an argument changed: %v, %d", d, roots)
	}
	clear(edges)
	clear(reachable)
	clear(findings)
	if !slices.Equal(d.Slots, slots) || !slices.Equal(d.Free, free) || !slices.Equal(roots, held) {
		t.Errorf("P6.3: a result shares memory: %v, %d", d, roots)
	}
	compare(t, d, roots)
}

// holder is an arena with the references that its caller holds.
type holder struct {
	t     *testing.T
	a     *arena.Arena
	roots []uint32
}

func newHolder(t *testing.T, capacity int) *holder {
	t.Helper()
	a, err := arena.New(capacity)
	if err != api.OK {
		t.Fatalf("arena.New(%d): %d", capacity, err)
	}
	return &holder{t: t, a: a}
}

func (h *holder) make(left, right uint32) uint32 {
	i, err := h.a.Make(1, 2, left, right)
	if err == api.OK {
		h.roots = append(h.roots, i)
	}
	return i
}

func (h *holder) retain(i uint32) {
	if h.a.Retain(i) == api.OK {
		h.roots = append(h.roots, i)
	}
}

// release removes the nth reference that the caller holds.
func (h *holder) release(n int) {
	h.a.Release(h.roots[n])
	h.roots = slices.Delete(h.roots, n, n+1)
}

func (h *holder) check() {
	h.t.Helper()
	d := h.a.Dump()
	if got := Check(d, h.roots); len(got) != 0 {
		h.t.Fatalf("P6.4: %v, roots %d: %v", d, h.roots, got)
	}
}

// checkWrongRoots checks that one reference more or less is found.
func (h *holder) checkWrongRoots() {
	h.t.Helper()
	d := h.a.Dump()
	for n, r := range h.roots {
		more := append(slices.Clone(h.roots), r)
		fewer := slices.Delete(slices.Clone(h.roots), n, n+1)
		for by, roots := range [][]uint32{fewer, h.roots, more} {
			got := slices.DeleteFunc(Check(d, roots), func(f api.Finding) bool { return f.Kind == api.FindingLeak })
			want := []api.Finding{{Kind: api.FindingCount, Slot: r, Want: h.a.Count(r) + by - 1, Have: h.a.Count(r)}}
			if by == 1 || r == 0 {
				want = nil
			}
			if !slices.Equal(got, want) {
				h.t.Fatalf("P6.3: %v, roots %d: %v, want %v", d, roots, got, want)
			}
		}
	}
}

func TestArena(t *testing.T) {
	s := &source{x: 4}
	for _, capacity := range []int{1, 2, 3, 5, 8, 20} {
		h := newHolder(t, capacity)
		h.check()
		for range 2000 {
			switch s.next(5) {
			case 0, 1:
				h.make(s.slot(capacity), s.slot(capacity))
			case 2:
				h.retain(s.slot(capacity))
			default:
				if len(h.roots) > 0 {
					h.release(s.next(len(h.roots)))
				}
			}
			h.check()
			if capacity <= 5 {
				compare(t, h.a.Dump(), h.roots)
				h.checkWrongRoots()
			}
		}
		for len(h.roots) > 0 {
			h.release(len(h.roots) - 1)
			h.check()
		}
		if got := Check(h.a.Dump(), nil); len(got) != 0 || h.a.Free() != capacity {
			t.Errorf("P6.4: %v, %d free", got, h.a.Free())
		}
	}
}

// TestGreatArena fills the greatest arena with a path, then frees it.
func TestGreatArena(t *testing.T) {
	h := newHolder(t, api.MaxSlots)
	h.check()
	root := uint32(0)
	for range api.MaxSlots {
		root = h.make(root, 0)
		if len(h.roots) == 2 {
			h.release(0)
		}
	}
	h.check()
	if got := Reachable(h.a.Dump(), h.roots); len(got) != api.MaxSlots {
		t.Errorf("P6.2: %d slots", len(got))
	}
	h.release(0)
	h.check()
	if h.a.Free() != api.MaxSlots {
		t.Errorf("P6.4: %d free", h.a.Free())
	}
}
