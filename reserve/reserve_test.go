package reserve

import (
	"math"
	"slices"
	"testing"

	"versionmap/api"
	"versionmap/shape"
)

// functions returns all functions of the package with their number of arguments, and with the wording of P8.1 for valid arguments.
func functions() []function {
	h := shape.MaxHeight
	return []function{
		{"Insert", 1, func(n [3]int) int { return Insert(n[0]) }, func(n [3]int) int { return 4 * (h(n[0]+1) + 2) }},
		{"Delete", 1, func(n [3]int) int { return Delete(n[0]) }, func(n [3]int) int { return 4 * (h(n[0]) + 2) }},
		{"Join", 2, func(n [3]int) int { return Join(n[0], n[1]) }, func(n [3]int) int { return 4 * (h(n[0]+n[1]+1) + 2) }},
		{"Split", 1, func(n [3]int) int { return Split(n[0]) }, func(n [3]int) int { return 12 * (h(n[0]) + 2) }},
		{"Build", 1, func(n [3]int) int { return Build(n[0]) }, func(n [3]int) int { return n[0] }},
		{"SetOperation", 2, func(n [3]int) int { return SetOperation(n[0], n[1]) }, func(n [3]int) int { return n[0] + n[1] + 12*(h(n[0]+n[1])+2) }},
		{"Merge", 3, func(n [3]int) int { return Merge(n[0], n[1], n[2]) }, func(n [3]int) int { return n[0] + n[1] + n[2] + 12*(h(n[0]+n[1]+n[2])+2) }},
		{"Apply", 2, func(n [3]int) int { return Apply(n[0], n[1]) }, func(n [3]int) int { return n[0] + n[1] + 4*(h(n[0]+n[1])+2) }},
	}
}

type function struct {
	name      string
	arguments int
	call      func([3]int) int
	model     func([3]int) int
}

// forAll calls visit with all arguments whose numbers are from the list. The numbers that f does not use are 0.
func (f function) forAll(numbers []int, visit func([3]int)) {
	var fill func(n [3]int, at int)
	fill = func(n [3]int, at int) {
		if at == f.arguments {
			visit(n)
			return
		}
		for _, number := range numbers {
			n[at] = number
			fill(n, at+1)
		}
	}
	fill([3]int{}, 0)
}

// edges returns valid numbers: small ones, great ones, and those at which, together with 0 or MaxSlots or twice MaxSlots keys, the greatest height of a tree changes.
func edges() []int {
	numbers := []int{0, 1, 2, 3, 4, 5, 6, 7, api.MaxSlots/2 - 1, api.MaxSlots / 2, api.MaxSlots - 2, api.MaxSlots - 1, api.MaxSlots}
	for height := 6; shape.MinKeys(height) <= 3*api.MaxSlots; height++ {
		rest := (shape.MinKeys(height)-1)%api.MaxSlots + 1
		numbers = append(numbers, rest-2, rest-1, rest)
	}
	slices.Sort(numbers)
	return slices.Compact(numbers)
}

// strangers returns numbers that are not valid. The sums of some of them are valid again, or wrap around.
func strangers() []int {
	return []int{-1, -2, -3, -api.MaxSlots, -api.MaxSlots - 1, math.MinInt, math.MinInt + 1, math.MinInt/2 - 1, math.MinInt32, api.MaxSlots + 1, api.MaxSlots + 2, 2 * api.MaxSlots, 1<<30 + 1, api.MaxSize - 1, api.MaxSize, math.MaxInt/2 + 1, math.MaxInt - 1, math.MaxInt}
}

func TestExamples(t *testing.T) {
	if got := Insert(0); got != 12 {
		t.Errorf("P8.1: Insert(0): %d", got)
	}
	if got := Insert(4); got != 24 {
		t.Errorf("P8.1: Insert(4): %d", got)
	}
	if got := Build(5); got != 5 {
		t.Errorf("P8.1: Build(5): %d", got)
	}
}

// TestNumbers has numbers that were computed by hand from P7.2 and P8.1.
func TestNumbers(t *testing.T) {
	const most = 1 << 16
	for _, c := range []struct {
		name string
		n    [3]int
		want int
	}{
		{"Insert", [3]int{0}, 12}, {"Insert", [3]int{1}, 16}, {"Insert", [3]int{4}, 24}, {"Insert", [3]int{5}, 24},
		{"Insert", [3]int{6}, 28}, {"Insert", [3]int{9}, 32}, {"Insert", [3]int{1000}, 92}, {"Insert", [3]int{most}, 152},
		{"Delete", [3]int{0}, 8}, {"Delete", [3]int{1}, 12}, {"Delete", [3]int{4}, 20}, {"Delete", [3]int{5}, 24},
		{"Delete", [3]int{9}, 28}, {"Delete", [3]int{10}, 32}, {"Delete", [3]int{1000}, 92}, {"Delete", [3]int{most}, 152},
		{"Join", [3]int{0, 0}, 12}, {"Join", [3]int{1, 0}, 16}, {"Join", [3]int{0, 1}, 16}, {"Join", [3]int{1, 2}, 20},
		{"Join", [3]int{2, 2}, 24}, {"Join", [3]int{4, 5}, 32}, {"Join", [3]int{most, 0}, 152}, {"Join", [3]int{most, most}, 160},
		{"Split", [3]int{0}, 24}, {"Split", [3]int{1}, 36}, {"Split", [3]int{4}, 60}, {"Split", [3]int{5}, 72},
		{"Split", [3]int{10}, 96}, {"Split", [3]int{1000}, 276}, {"Split", [3]int{most}, 456},
		{"Build", [3]int{0}, 0}, {"Build", [3]int{1}, 1}, {"Build", [3]int{5}, 5}, {"Build", [3]int{most}, most},
		{"SetOperation", [3]int{0, 0}, 24}, {"SetOperation", [3]int{1, 0}, 37}, {"SetOperation", [3]int{0, 1}, 37},
		{"SetOperation", [3]int{2, 2}, 64}, {"SetOperation", [3]int{500, 499}, 1275}, {"SetOperation", [3]int{most, most}, 131552},
		{"Merge", [3]int{0, 0, 0}, 24}, {"Merge", [3]int{1, 0, 0}, 37}, {"Merge", [3]int{0, 1, 0}, 37}, {"Merge", [3]int{0, 0, 1}, 37},
		{"Merge", [3]int{2, 3, 4}, 93}, {"Merge", [3]int{3, 3, 4}, 106}, {"Merge", [3]int{100, 200, 700}, 1276}, {"Merge", [3]int{most, most, most}, 197100},
		{"Apply", [3]int{0, 0}, 8}, {"Apply", [3]int{1, 0}, 13}, {"Apply", [3]int{0, 1}, 13}, {"Apply", [3]int{2, 2}, 24},
		{"Apply", [3]int{500, 499}, 1091}, {"Apply", [3]int{most, 0}, 65688}, {"Apply", [3]int{most, most}, 131232},
	} {
		for _, f := range functions() {
			if f.name != c.name {
				continue
			}
			if got := f.call(c.n); got != c.want {
				t.Errorf("P8.1: %s%v: %d, want %d", f.name, c.n[:f.arguments], got, c.want)
			}
		}
	}
}

func TestFormulas(t *testing.T) {
	numbers := edges()
	for _, f := range functions() {
		compare := func(n [3]int) {
			if got, want := f.call(n), f.model(n); got != want {
				t.Fatalf("P8.1: %s%v: %d, want %d", f.name, n[:f.arguments], got, want)
			}
		}
		f.forAll(numbers, compare)
		if f.arguments > 1 {
			continue
		}
		for n := range api.MaxSlots + 1 {
			compare([3]int{n})
		}
	}
}

func TestInvalid(t *testing.T) {
	bad := map[int]bool{}
	for _, n := range strangers() {
		bad[n] = true
	}
	numbers := append(strangers(), 0, 1, 2, 3, 1000, api.MaxSlots-1, api.MaxSlots)
	for _, f := range functions() {
		calls := 0
		f.forAll(numbers, func(n [3]int) {
			if !bad[n[0]] && !bad[n[1]] && !bad[n[2]] {
				return
			}
			calls++
			if got := f.call(n); got != -1 {
				t.Errorf("P8.1: %s%v: %d, want -1", f.name, n[:f.arguments], got)
			}
		})
		if calls < len(bad) {
			t.Errorf("%s: %d calls", f.name, calls)
		}
	}
}
