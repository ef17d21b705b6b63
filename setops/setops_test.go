package setops

import (
	"slices"
	"strings"
	"testing"

	"versionmap/api"
	"versionmap/reserve"
	"versionmap/shape"
	"versionmap/treetest"
	"versionmap/update"
)

func TestExample(t *testing.T) {
	f := newFixture(t, 200)
	x := f.Plant(treetest.Full(2), []api.Entry{{Key: 1, Value: 10}, {Key: 2, Value: 20}})
	y := f.Plant(treetest.Full(2), []api.Entry{{Key: 2, Value: 5}, {Key: 3, Value: 30}})
	for _, c := range []struct {
		rule   rule
		policy int
		want   []api.Entry
	}{
		{union(), api.AddValues, []api.Entry{{Key: 1, Value: 10}, {Key: 2, Value: 25}, {Key: 3, Value: 30}}},
		{intersect(), api.KeepMin, []api.Entry{{Key: 2, Value: 5}}},
		{subtract(), 0, []api.Entry{{Key: 1, Value: 10}}},
		{exclusive(), 0, []api.Entry{{Key: 1, Value: 10}, {Key: 3, Value: 30}}},
	} {
		got, err := f.do(c.rule, x, y, c.policy)
		if list := treetest.Listing(f.Arena.Dump(), got); err != api.OK || !slices.Equal(list, c.want) {
			t.Errorf("P16.1: %s: %v, %d", c.rule.name, list, err)
		}
	}
}

// words returns all words by which x has n keys and y has m.
func words(n, m int) []string {
	if n == 0 || m == 0 {
		return []string{strings.Repeat("x", n) + strings.Repeat("y", m)}
	}
	var all []string
	for _, w := range words(n-1, m) {
		all = append(all, "x"+w)
	}
	for _, w := range words(n, m-1) {
		all = append(all, "y"+w)
	}
	for _, w := range words(n-1, m-1) {
		all = append(all, "b"+w)
	}
	return all
}

// someWords returns words for trees of many keys: one range before the other one, one within the other one, the same keys as far as possible, alternate keys, and mixtures.
func someWords(n, m int, next func(int) int) []string {
	x, y := strings.Repeat("x", n), strings.Repeat("y", m)
	same := min(n, m)
	all := []string{
		x + y,
		x[:n/3] + y + x[n/3:],
		strings.Repeat("b", same) + x[same:] + y[same:],
		strings.Repeat("xy", same) + x[same:] + y[same:],
	}
	for _, often := range []int{0, 3, 30} {
		all = append(all, mixture(n, m, often, next))
	}
	return all
}

// mixture returns a word in which many keys are in both trees if often says so.
func mixture(n, m, often int, next func(int) int) string {
	var word []byte
	for n > 0 || m > 0 {
		switch {
		case n > 0 && m > 0 && next(often+1) > 0:
			word, n, m = append(word, 'b'), n-1, m-1
		case next(n+m) < n:
			word, n = append(word, 'x'), n-1
		default:
			word, m = append(word, 'y'), m-1
		}
	}
	return string(word)
}

// TestSmallTrees has all balanced trees of up to four nodes with each other, and all ways in which their keys can follow one another.
func TestSmallTrees(t *testing.T) {
	all := treetest.UpTo(4)
	for at, l := range all {
		for _, r := range all[:at+1] {
			for _, word := range words(l.Size(), r.Size()) {
				p := newPair(t, l, r, word)
				p.both()
			}
		}
	}
}

// TestMissingSlot has trees of all small sizes, with one free slot too few.
func TestMissingSlot(t *testing.T) {
	for n := range 5 {
		for m := range 5 {
			for _, word := range words(n, m) {
				newPair(t, treetest.Full(n), treetest.Full(m), word).missing()
			}
		}
	}
}

// TestManyTrees has trees of many heights and shapes, each with some of the others.
func TestManyTrees(t *testing.T) {
	all := treetest.Many(70)
	next := treetest.Generator(16)
	const step = 17
	for number, l := range all {
		for other := number % step; other <= number; other += step {
			for at, word := range someWords(l.Size(), all[other].Size(), next) {
				p := newPair(t, l, all[other], word)
				if at%2 == 0 {
					p.doAll(p.x, p.y)
				} else {
					p.doAll(p.y, p.x)
				}
			}
		}
	}
}

// TestHighTrees has high trees, whose longest paths turn in all ways, with each other and with small trees.
func TestHighTrees(t *testing.T) {
	next := treetest.Generator(61)
	ways := treetest.Turns()
	for at, way := range ways {
		high := treetest.Thinnest(25, way)
		for _, other := range []*treetest.Tree{treetest.Thinnest(25, ways[(at+1)%len(ways)]), treetest.Thinnest(17, way), treetest.Full(3)} {
			p := newPair(t, high, other, mixture(high.Size(), other.Size(), 2, next))
			p.both()
		}
	}
}

// TestHighestTrees has the highest trees for which an arena has enough slots: one with a small tree, and two of the same height.
func TestHighestTrees(t *testing.T) {
	next := treetest.Generator(17)
	for _, c := range []struct{ l, r *treetest.Tree }{
		{treetest.Thinnest(33, []bool{true}), treetest.Full(2)},
		{treetest.Thinnest(33, []bool{false, true}), treetest.Full(40)},
		{treetest.Thinnest(31, []bool{true}), treetest.Thinnest(31, []bool{false})},
		{treetest.Thinnest(31, []bool{false}), treetest.Thinnest(31, []bool{true})},
	} {
		p := newPair(t, c.l, c.r, mixture(c.l.Size(), c.r.Size(), 0, next))
		p.Discard(p.do(union(), p.x, p.y, api.KeepLeft))
		p.Discard(p.do(exclusive(), p.y, p.x, 0))
		p = newPair(t, c.l, c.r, mixture(c.l.Size(), c.r.Size(), 3, next))
		p.Discard(p.do(union(), p.y, p.x, api.AddValues))
		p.Discard(p.do(intersect(), p.x, p.y, api.KeepRight))
		p.Discard(p.do(subtract(), p.x, p.y, 0))
	}
}

// TestLargestTrees has two trees of as many keys as possible, with exactly the slots that they require, and with one too few.
func TestLargestTrees(t *testing.T) {
	n := treetest.Largest(func(n int) int { return n + reserve.SetOperation(n, n) })
	for _, word := range []string{strings.Repeat("xy", n), strings.Repeat("b", n)} {
		p := newPair(t, treetest.Full(n), treetest.Full(n), word)
		for _, r := range rules() {
			p.Discard(p.do(r, p.x, p.y, r.policies()[0]))
		}
		p.Leave(p.room - 1)
		for _, r := range rules() {
			if _, err := p.do(r, p.x, p.y, r.policies()[0]); err != api.ErrFull {
				t.Errorf("P16.2: %s of %d and %d keys, one slot too few: %d", r.name, n, n, err)
			}
		}
	}
}

// TestFreeSlots has all numbers of free slots up to those that are required.
func TestFreeSlots(t *testing.T) {
	for _, c := range []struct {
		word     string
		required int
	}{{"xy", 2 + 12*4}, {"b", 2 + 12*4}, {"xxbyy", 6 + 12*6}, {"xbbbbbbbby", 18 + 12*9}} {
		n, m := len(c.word)-strings.Count(c.word, "y"), len(c.word)-strings.Count(c.word, "x")
		p := newPair(t, treetest.Full(n), treetest.Full(m), c.word)
		if p.room != c.required {
			t.Fatalf("P8.1: SetOperation(%d, %d): %d", n, m, p.room)
		}
		for free := range c.required + 1 {
			p.Leave(free)
			for _, r := range rules() {
				for _, policy := range r.policies() {
					got, err := p.do(r, p.x, p.y, policy)
					if (err == api.OK) != (free == c.required) {
						t.Errorf("P16.2: %s of %q, %d free: %d", r.name, c.word, free, err)
					}
					p.Discard(got, err)
				}
			}
		}
	}
}

// TestSpecialCases has trees that are the same or empty, in an arena without a free slot and in others.
func TestSpecialCases(t *testing.T) {
	for _, n := range []int{0, 1, 2, 3, 10, 1000, api.MaxSlots} {
		free := []int{0, 1, 12}
		if n == api.MaxSlots {
			free = free[:1]
		}
		f := newFixture(t, n+free[len(free)-1])
		x := f.Plant(treetest.Full(n), treetest.Spaced(n))
		for _, count := range free {
			f.Leave(count)
			for _, pair := range [][2]uint32{{x, x}, {x, 0}, {0, x}, {0, 0}} {
				f.doAll(pair[0], pair[1])
			}
		}
	}
}

// TestResultsOfSpecialCases has the results that the chapter names.
func TestResultsOfSpecialCases(t *testing.T) {
	f := newFixture(t, 9)
	x := f.Plant(treetest.Full(9), treetest.Spaced(9))
	for _, c := range []struct {
		rule             rule
		same, xOf0, ofX0 uint32
	}{{union(), x, x, x}, {intersect(), x, 0, 0}, {subtract(), 0, 0, x}, {exclusive(), 0, x, x}} {
		for _, policy := range c.rule.policies() {
			same, err := c.rule.run(f.Arena, x, x, policy)
			if added := policy == api.AddValues; added && err != api.ErrFull || !added && (same != c.same || err != api.OK) {
				t.Errorf("P16.3: %s of x and x, %d: %d, %d", c.rule.name, policy, same, err)
			}
			emptyX, err := c.rule.run(f.Arena, 0, x, policy)
			emptyY, fail := c.rule.run(f.Arena, x, 0, policy)
			if emptyX != c.xOf0 || emptyY != c.ofX0 || err != api.OK || fail != api.OK {
				t.Errorf("P16.3: %s, %d: of 0 and x %d, %d, of x and 0 %d, %d", c.rule.name, policy, emptyX, err, emptyY, fail)
			}
		}
	}
}

// TestPolicies has numbers that are no policies, for trees for which there are enough slots, for which there are not, and that are special cases.
func TestPolicies(t *testing.T) {
	p := newPair(t, treetest.Full(3), treetest.Full(4), "xbyby")
	for _, missing := range []int{0, 1} {
		p.Leave(p.room - missing)
		for _, policy := range noPolicies() {
			for _, r := range []rule{union(), intersect()} {
				for _, pair := range [][2]uint32{{p.x, p.y}, {p.x, p.x}, {p.x, 0}, {0, p.y}, {0, 0}} {
					if _, err := p.do(r, pair[0], pair[1], policy); err != api.ErrInvalid {
						t.Errorf("P16.2: %s, policy %d: %d", r.name, policy, err)
					}
				}
			}
		}
	}
}

// TestExtremeKeys has trees whose keys are among some at the ends of the integers and around 0.
func TestExtremeKeys(t *testing.T) {
	lists := treetest.ExtremeLists()
	for number, inX := range lists {
		for other := number % 7; other < len(lists); other += 7 {
			inY := slices.Clone(lists[other])
			for i := range inY {
				inY[i].Value -= int64(number)
			}
			f := newFixture(t, 120)
			f.doAll(f.Plant(treetest.Full(len(inX)), inX), f.Plant(treetest.Full(len(inY)), inY))
		}
	}
}

// TestExtremeValues has a key with all pairs of values at the ends of the integers and around 0.
func TestExtremeValues(t *testing.T) {
	for _, inX := range treetest.Extremes() {
		for _, inY := range treetest.Extremes() {
			f := newFixture(t, 100)
			f.doAll(f.Make(0, api.Entry{Key: 5, Value: inX}, 0), f.Make(0, api.Entry{Key: 5, Value: inY}, 0))
		}
	}
}

// versions plants a tree and returns it with some versions of it, which share most of its nodes: an entry is added, changed, or removed at one of some positions.
func (f fixture) versions(s *treetest.Tree, most int) []uint32 {
	f.T.Helper()
	n := s.Size()
	entries := treetest.Spaced(n)
	root := f.Plant(s, entries)
	all := []uint32{root}
	for _, at := range treetest.Some(n, most) {
		added, _, _, err := update.Insert(f.Arena, root, api.Entry{Key: entries[at].Key + 1, Value: int64(at)})
		changed, _, fail := update.Increase(f.Arena, root, entries[at].Key, int64(at%3-1))
		removed, _, missing := update.Delete(f.Arena, added, entries[at].Key)
		if err != api.OK || fail != api.OK || missing != api.OK {
			f.T.Fatalf("layer 14: %d, %d, %d", err, fail, missing)
		}
		all = append(all, added, changed, removed)
	}
	f.Held = append(f.Held, all[1:]...)
	return all
}

// TestVersions has all pairs of some versions of one tree.
func TestVersions(t *testing.T) {
	for _, s := range treetest.Many(30) {
		f := newFixture(t, 450)
		all := f.versions(s, 1)
		for _, x := range all {
			for _, y := range all {
				f.doAll(x, y)
			}
		}
	}
}

// TestStopsAtSharedSubtrees holds that an operation on two versions of a large tree reads few of its nodes, if no values are added.
func TestStopsAtSharedSubtrees(t *testing.T) {
	for _, s := range []*treetest.Tree{treetest.Full(15000), treetest.Thinnest(30, []bool{true}), treetest.Random(9000, treetest.Generator(3))} {
		f := newFixture(t, api.MaxSlots)
		all := f.versions(s, 2)
		levels := shape.MaxHeight(s.Size()) + 2
		for _, x := range all {
			for _, y := range all {
				for _, r := range rules() {
					for _, policy := range r.policies() {
						if policy == api.AddValues {
							continue
						}
						before, free := f.Arena.Reads(), f.Arena.Free()
						got, err := r.run(f.Arena, x, y, policy)
						reads, slots := f.Arena.Reads()-before, free-f.Arena.Free()
						f.Arena.Release(got)
						if err != api.OK || reads > uint64(8*levels*levels) || slots > 4*levels {
							t.Errorf("chapter 16: %s, %d: %d reads, %d slots for %d levels", r.name, policy, reads, slots, levels)
						}
					}
				}
			}
		}
	}
}

// TestSharesWhatStays holds that x itself is the result if all entries of x, and only these, are in it.
func TestSharesWhatStays(t *testing.T) {
	for _, word := range []string{"xbxbxxb", "bbbbbbbb", "bxx", "xxxxxxb"} {
		inX, inY := entriesOf(word)
		f := newFixture(t, 500)
		x, y := f.Plant(treetest.Full(len(inX)), inX), f.Plant(treetest.Full(len(inY)), inY)
		other := f.Plant(treetest.Full(1), []api.Entry{{Key: 1, Value: 1}})
		part, _ := f.do(subtract(), x, y, 0)
		more, _ := f.do(union(), y, x, api.KeepLeft)
		for _, c := range []struct {
			rule   rule
			y      uint32
			policy int
		}{
			{union(), y, api.KeepLeft}, {union(), part, api.KeepRight}, {union(), part, api.KeepMin}, {union(), part, api.KeepMax},
			{intersect(), more, api.KeepLeft}, {subtract(), other, 0},
		} {
			if got, err := f.do(c.rule, x, c.y, c.policy); got != x || err != api.OK {
				t.Errorf("chapter 16: %s of %q, %d: %d, %d, not x", c.rule.name, word, c.policy, got, err)
			}
		}
	}
}

// TestResultStays holds that a result does not need the trees it was made of.
func TestResultStays(t *testing.T) {
	for _, word := range []string{"xyb", "xbybyxxyb", strings.Repeat("xyybb", 9)} {
		for _, r := range rules() {
			n, m := len(word)-strings.Count(word, "y"), len(word)-strings.Count(word, "x")
			p := newPair(t, treetest.Full(n), treetest.Full(m), word)
			policy := r.policies()[0]
			got, _ := p.do(r, p.x, p.y, policy)
			p.Release(p.x, p.y)
			p.Leave(0)
			inX, inY := entriesOf(word)
			want := r.entries(inX, inY, policy)
			if list := treetest.Listing(p.Arena.Dump(), got); !slices.Equal(list, want) || shape.Check(p.Arena, got) != api.OK {
				t.Errorf("P16.1: %s of %q: %v, want %v", r.name, word, list, want)
			}
		}
	}
}
