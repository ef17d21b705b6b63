package setops

import (
	"math"
	"slices"
	"testing"

	"versionmap/api"
	"versionmap/arena"
	"versionmap/reserve"
	"versionmap/treetest"
)

// rule is what the chapter says of a function: which keys are in its result, and what it returns for two trees that are the same, for an empty x, and for an empty y.
type rule struct {
	name      string
	run       func(a *arena.Arena, x, y uint32, policy int) (uint32, api.Errno)
	hasPolicy bool
	keeps     func(inX, inY bool) bool
	ofSame    func(x uint32) uint32
	ofEmptyX  func(y uint32) uint32
	ofEmptyY  func(x uint32) uint32
}

func itself(i uint32) uint32 { return i }

func empty(uint32) uint32 { return 0 }

func union() rule {
	return rule{"Union", Union, true, func(inX, inY bool) bool { return inX || inY }, itself, itself, itself}
}

func intersect() rule {
	return rule{"Intersect", Intersect, true, func(inX, inY bool) bool { return inX && inY }, itself, empty, empty}
}

func subtract() rule {
	run := func(a *arena.Arena, x, y uint32, _ int) (uint32, api.Errno) { return Subtract(a, x, y) }
	return rule{"Subtract", run, false, func(inX, inY bool) bool { return inX && !inY }, empty, empty, itself}
}

func exclusive() rule {
	run := func(a *arena.Arena, x, y uint32, _ int) (uint32, api.Errno) { return Exclusive(a, x, y) }
	return rule{"Exclusive", run, false, func(inX, inY bool) bool { return inX != inY }, empty, itself, itself}
}

func rules() []rule {
	return []rule{union(), intersect(), subtract(), exclusive()}
}

// policies returns the valid policies, and one of no meaning for a function that has none.
func (r rule) policies() []int {
	if r.hasPolicy {
		return []int{api.KeepLeft, api.KeepRight, api.AddValues, api.KeepMin, api.KeepMax}
	}
	return []int{0}
}

// noPolicies returns numbers that are no policies.
func noPolicies() []int {
	return []int{math.MinInt, math.MinInt32, -5, -1, 0, 6, 7, 255, 257, 1<<32 + 1, 1<<32 + 5, math.MaxInt}
}

// valueOf returns the value of a key that is in both trees.
func valueOf(policy int, inX, inY int64) int64 {
	switch {
	case policy == api.KeepLeft, policy == api.KeepMin && inX < inY, policy == api.KeepMax && inX > inY:
		return inX
	case policy == api.AddValues:
		return inX + inY
	}
	return inY
}

// special returns what P16.3 says, if this is one of its cases.
func (r rule) special(x, y uint32, policy int) (uint32, bool) {
	switch {
	case x == y && !(r.hasPolicy && policy == api.AddValues):
		return r.ofSame(x), true
	case x == 0:
		return r.ofEmptyX(y), true
	case y == 0:
		return r.ofEmptyY(x), true
	}
	return 0, false
}

// entries returns the entries of the result for trees with the entries x and y.
func (r rule) entries(x, y []api.Entry, policy int) []api.Entry {
	var list []api.Entry
	for len(x) > 0 || len(y) > 0 {
		inX := len(y) == 0 || len(x) > 0 && x[0].Key <= y[0].Key
		inY := len(x) == 0 || len(y) > 0 && y[0].Key <= x[0].Key
		var e api.Entry
		switch {
		case inX && inY:
			e = api.Entry{Key: x[0].Key, Value: valueOf(policy, x[0].Value, y[0].Value)}
		case inX:
			e = x[0]
		default:
			e = y[0]
		}
		if r.keeps(inX, inY) {
			list = append(list, e)
		}
		if inX {
			x = x[1:]
		}
		if inY {
			y = y[1:]
		}
	}
	return list
}

// fixture calls the functions in an arena and compares them with the chapter.
type fixture struct {
	*treetest.Fixture
}

func newFixture(t *testing.T, capacity int) fixture {
	t.Helper()
	return fixture{treetest.New(t, capacity)}
}

// do calls a function and compares the result, the error and the effects with the chapter. The fixture holds the reference to the result.
func (f fixture) do(r rule, x, y uint32, policy int) (uint32, api.Errno) {
	f.T.Helper()
	var got uint32
	var err api.Errno
	c := f.Watch(r.name, func() { got, err = r.run(f.Arena, x, y, policy) })
	inX, inY := treetest.Listing(c.Before, x), treetest.Listing(c.Before, y)
	one, special := r.special(x, y, policy)
	want := api.OK
	switch {
	case r.hasPolicy && !slices.Contains(r.policies(), policy):
		want = api.ErrInvalid
	case special:
		f.Itself("P16.3", c, got, one)
		if c.Reads > 4 {
			f.T.Fatalf("P16.3: %s(%d, %d, %d): %d reads", r.name, x, y, policy, c.Reads)
		}
	case len(c.Before.Free) < reserve.SetOperation(len(inX), len(inY)):
		want = api.ErrFull
	}
	if err != want || err != api.OK && got != 0 {
		f.T.Fatalf("P16.2: %s(%v, %v, %d), %d free: %d, %d, want %d", r.name, inX, inY, policy, len(c.Before.Free), got, err, want)
	}
	if err != api.OK {
		f.Failed(c)
		return 0, err
	}
	f.Returned("P16.1", c, got, r.entries(inX, inY, policy))
	f.Effects("P16.4", c)
	return got, err
}

// doAll calls all functions with all valid policies, and gives the results back.
func (f fixture) doAll(x, y uint32) {
	f.T.Helper()
	for _, r := range rules() {
		for _, policy := range r.policies() {
			f.Discard(f.do(r, x, y, policy))
		}
	}
}

// pair is an arena with two trees, and with exactly as many free slots as an operation on these requires.
type pair struct {
	fixture
	x, y uint32
	room int
}

// newPair plants trees with the keys that a word gives to them: each letter stands for the next key, which is only in x, only in y, or in both trees (b).
func newPair(t *testing.T, l, r *treetest.Tree, word string) pair {
	t.Helper()
	inX, inY := entriesOf(word)
	room := reserve.SetOperation(len(inX), len(inY))
	f := newFixture(t, len(inX)+len(inY)+room)
	return pair{f, f.Plant(l, inX), f.Plant(r, inY), room}
}

// entriesOf returns the entries of two trees. Of the keys that both have, some have a lesser value in x, some in y, and some the same.
func entriesOf(word string) (x, y []api.Entry) {
	for i, e := range treetest.Spaced(len(word)) {
		other := e
		other.Value += int64(i%3-1) * 40
		switch word[i] {
		case 'x':
			x = append(x, e)
		case 'y':
			y = append(y, e)
		default:
			x, y = append(x, e), append(y, other)
		}
	}
	return x, y
}

// both calls all functions with the trees in either order.
func (p pair) both() {
	p.T.Helper()
	p.doAll(p.x, p.y)
	p.doAll(p.y, p.x)
}

// missing has one free slot too few.
func (p pair) missing() {
	p.T.Helper()
	p.Leave(p.room - 1)
	p.both()
	p.Leave(p.room)
}
