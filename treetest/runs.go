package treetest

import "slices"

// Run makes so many calls with trees that are results of earlier ones, as next says, and counts how often each function succeeded.
type Run func(f *Fixture, calls int, next func(int) int) map[string]int

// LongRuns runs calls in an arena, and holds that the functions with these names succeeded often, and that all slots are free when all references were given back.
func LongRuns(t T, capacity, calls int, run Run, names ...string) {
	t.Helper()
	f := New(t, capacity)
	done := run(f, calls, Generator(uint64(capacity)))
	for _, name := range names {
		if done[name] < 100 {
			t.Fatalf("%s succeeded only %d times with %d slots", name, done[name], capacity)
		}
	}
	f.Release(f.Held...)
	if f.Arena.Free() != capacity {
		t.Fatalf("P50.2: %d of %d slots are free", f.Arena.Free(), capacity)
	}
}

// SameCalls holds that the same calls on equal arenas have the same results, whatever happens in another arena.
func SameCalls(t T, capacity int, run Run) {
	t.Helper()
	x, y, other := New(t, capacity), New(t, capacity), New(t, capacity)
	forX, forY, elsewhere := Generator(4), Generator(4), Generator(5)
	for range 30 {
		run(x, 10, forX)
	}
	for range 30 {
		run(y, 10, forY)
		run(other, 7, elsewhere)
	}
	d, e := x.Arena.Dump(), y.Arena.Dump()
	if !slices.Equal(d.Slots, e.Slots) || !slices.Equal(d.Free, e.Free) || !slices.Equal(x.Held, y.Held) {
		t.Fatalf("rule 9: two runs differ: %v, %v", d, e)
	}
}
