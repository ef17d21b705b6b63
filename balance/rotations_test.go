package balance

import (
	"testing"
)

// The tests of this file are about weights. That of a tree is the number of its keys plus 1, so that of a node is the sum of those of its subtrees.

func even(x, y int) bool {
	return x <= 3*y && y <= 3*x
}

// forParts runs visit with all weights of the subtrees of a balanced node.
func forParts(weight int, visit func(x, y int)) {
	for x := 1; x < weight; x++ {
		if even(x, weight-x) {
			visit(x, weight-x)
		}
	}
}

// rotates holds that the rotation that is chosen balances a node with the subtrees light and (inner outer).
func rotates(t *testing.T, light, inner, outer int) {
	t.Helper()
	if singleBalances(light-1, inner-1, outer-1) {
		if !even(light, inner) || !even(light+inner, outer) {
			t.Errorf("P13.1: ((%d %d) %d)", light, inner, outer)
		}
		return
	}
	if inner == 1 {
		t.Errorf("P13.1: (%d (%d %d)) has no double rotation", light, inner, outer)
	}
	forParts(inner, func(x, y int) {
		if !even(light, x) || !even(y, outer) || !even(light+x, y+outer) {
			t.Errorf("P13.1: ((%d %d) (%d %d))", light, x, y, outer)
		}
	})
}

// rotatesAll has all balanced trees of the heavy weight beside the light one.
func rotatesAll(t *testing.T, light, heavy int) {
	t.Helper()
	forParts(heavy, func(inner, outer int) { rotates(t, light, inner, outer) })
}

// TestRotations has all weights up to a bound that balance can meet. Only their proportions matter for greater ones.
func TestRotations(t *testing.T) {
	const most = 60
	for light := 1; light <= most; light++ {
		for heavy := 3*light + 1; heavy <= 4*light; heavy++ {
			rotatesAll(t, light, heavy)
		}
		// light has lost an entry.
		for heavy := 3*light + 1; heavy <= 3*(light+1); heavy++ {
			rotatesAll(t, light, heavy)
		}
		// The right child of (light next) was joined with a tree: if these are balanced, they are the children of a new node.
		for next := (light + 2) / 3; next <= 3*light; next++ {
			for lighter := 1; 3*lighter < light+next; lighter++ {
				switch heavy := next + lighter; {
				case heavy <= 3*light:
				case even(next, lighter):
					rotates(t, light, next, lighter)
				case heavy > 4*light:
					t.Errorf("P13.1: (%d %d) joined with %d", light, next, lighter)
				}
			}
		}
	}
}
