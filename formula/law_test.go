package formula_test

import (
	"slices"
	"testing"

	"clusterlocks/formula"
	"clusterlocks/request"
)

// Consequences: more atoms in the set never make an expression false, nor fewer dead ones hopeless; it holds for all atoms and for none it does not.
func TestMonotone(t *testing.T) {
	for _, e := range slices.Concat(smallOnes(5), randomOnes(8, 200)) {
		n := len(formula.Atoms(e))
		holds, hopeless := make([]bool, 1<<n), make([]bool, 1<<n)
		for set := range holds {
			holds[set], hopeless[set] = formula.Holds(e, bools(n, set)), formula.Hopeless(e, bools(n, set))
		}
		for set := range holds {
			for i := range n {
				if more := set | 1<<i; holds[set] && !holds[more] || hopeless[set] && !hopeless[more] {
					t.Errorf("%s is not monotone", request.FormatExpr(e))
				}
			}
			if others := len(holds) - 1 - set; holds[set] == hopeless[others] {
				t.Errorf("%s is hopeless without a set for which it holds, or not without another", request.FormatExpr(e))
			}
		}
		if holds[0] || !holds[len(holds)-1] {
			t.Errorf("%s holds for no atoms, or not for all", request.FormatExpr(e))
		}
	}
}

// Consequences: Prune returns a minimal set, which is a part of the given one, and is its own result.
func TestPruneIsMinimal(t *testing.T) {
	for _, e := range slices.Concat(smallOnes(5), randomOnes(9, 150)) {
		n := len(formula.Atoms(e))
		for number := range 1 << n {
			set := bools(n, number)
			left := formula.Prune(e, set)
			if formula.Holds(e, set) != formula.Holds(e, left) || len(left) != n || !slices.Equal(formula.Prune(e, left), left) {
				t.Errorf("Prune(%s, %s) = %s", request.FormatExpr(e), unmarks(set), unmarks(left))
			}
			for i := range left {
				without := slices.Clone(left)
				without[i] = false
				if left[i] && (!set[i] || formula.Holds(e, without)) {
					t.Errorf("Prune(%s, %s) = %s contains atom %d", request.FormatExpr(e), unmarks(set), unmarks(left), i)
				}
			}
		}
	}
}

// P8.1, P8.2, P8.3: the chapter's examples.
func TestExamples(t *testing.T) {
	e := expr(t, "2 of (a:S, b:S, c:S)")
	wantHolds(t, e, marks("101"), true)
	wantPrune(t, e, "111", "110")
	wantClass(t, e, 4)
	wantClass(t, expr(t, "all(a:S, b:S)"), 2)
}
