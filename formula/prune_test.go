package formula_test

import (
	"slices"
	"strings"
	"testing"

	"clusterlocks/api"
	"clusterlocks/formula"
	"clusterlocks/request"
)

// wantPrune reports it if Prune of e for a set is not this.
func wantPrune(t *testing.T, e api.Expr, set, want string) {
	t.Helper()
	if got := formula.Prune(e, marks(set)); unmarks(got) != want {
		t.Errorf("Prune(%s, %s) = %s, want %s", request.FormatExpr(e), set, unmarks(got), want)
	}
}

// P8.2: what ordinary expressions need of a set; of atoms that can stand in for each other, the first ones remain.
func TestPrune(t *testing.T) {
	for _, x := range []struct{ e, set, want string }{
		{"a:S", "1", "1"}, {"a:S", "0", "0"}, {"a:S", "", "0"}, {"a:S", "01", "0"}, {"a:S", "11", "1"}, {"any(a:S, a:S)", "1", "1"}, {"all(a:S, a:S)", "1", "1"},
		{"all(a:S, b:S)", "11", "11"}, {"all(a:S, b:S)", "10", "00"}, {"all(a:S, b:S)", "01", "00"}, {"all(a:S, b:S)", "1", "00"},
		{"any(a:S, b:S)", "11", "10"}, {"any(a:S, b:S)", "01", "01"}, {"any(a:S, b:S)", "10", "10"}, {"any(a:S, b:S)", "1", "10"}, {"any(a:S, b:S)", "00", "00"}, {"any(a:S, b:S)", "0011", "00"}, {"any(a:S, b:S)", "0111", "01"},
		{"2 of (a:S, b:S, c:S)", "111", "110"}, {"2 of (a:S, b:S, c:S)", "101", "101"}, {"2 of (a:S, b:S, c:S)", "011", "011"}, {"2 of (a:S, b:S, c:S)", "11", "110"}, {"2 of (a:S, b:S, c:S)", "001", "000"}, {"2 of (a:S, b:S, c:S)", "100", "000"},
		{"2 of (a:S, a:S, b:S)", "11", "10"}, {"2 of (a:S, b:S, b:S)", "11", "01"}, {"2 of (a:S, b:S, b:S)", "10", "00"},
		// The last one that is not needed goes first: also where fewer atoms would do, or an earlier one stands alone.
		{"any(all(a:S, b:S), c:S)", "111", "110"}, {"any(all(a:S, b:S), c:S)", "101", "001"}, {"any(c:S, all(a:S, b:S))", "111", "100"}, {"any(c:S, all(a:S, b:S))", "011", "011"},
		{"any(all(a:S, b:S, c:S, d:S), e:S)", "11111", "11110"}, {"any(all(a:S, b:S, c:S, d:S), e:S)", "11011", "00001"},
		{"all(any(a:S, b:S), any(b:S, c:S))", "111", "010"}, {"all(any(a:S, b:S), any(b:S, c:S))", "110", "010"}, {"all(any(a:S, b:S), any(b:S, c:S))", "011", "010"}, {"all(any(a:S, b:S), any(b:S, c:S))", "101", "101"}, {"all(any(a:S, c:S), any(c:S, b:S))", "111", "010"}, {"all(any(a:S, c:S), any(c:S, b:S))", "101", "101"},
		// The order is that of the atoms, which is not that of the names.
		{"any(c:S, a:S)", "11", "10"}, {"all(c*1, any(b*1, a*1))", "111", "110"}, {"all(any(z:S), any(y:S, x:S, z:S))", "111", "100"},
	} {
		wantPrune(t, expr(t, x.e), x.set, x.want)
	}
}

// P8.2: of "k of n" the first k atoms of the set remain.
func TestPruneThresholds(t *testing.T) {
	for n := 1; n <= 8; n++ {
		for k := 1; k <= n; k++ {
			for set := range 1 << n {
				want := make([]bool, n)
				count := 0
				for i := range want {
					if want[i] = set>>i&1 == 1 && count < k; want[i] {
						count++
					}
				}
				if count < k {
					clear(want)
				}
				wantPrune(t, group(k, letters(n)...), unmarks(bools(n, set)), unmarks(want))
			}
		}
	}
}

// pruned returns the number of the least set within this one for which the expression with this truth table holds, or 0. As larger sets never do worse, this is what remains if the last atoms are removed first.
func pruned(table []bool, set int) int {
	for n := range table {
		if n&^set == 0 && table[n] {
			return n
		}
	}
	return 0
}

// P8.2: Prune of all small expressions and of random ones, for all sets, compared with truth tables.
func TestPruneOfMany(t *testing.T) {
	for _, e := range slices.Concat(smallOnes(5), randomOnes(4, 300)) {
		table := truth(e)
		n := len(atomTexts(e))
		for set := range table {
			wantPrune(t, e, unmarks(bools(n, set)), unmarks(bools(n, pruned(table, set))))
		}
	}
}

// P8.2: the result has an element for each atom, however long the set is.
func TestLengthOfPrune(t *testing.T) {
	for n := 1; n <= 8; n++ {
		one, every := group(1, letters(n)...), all(letters(n)...)
		none := strings.Repeat("0", n)
		for length := range 20 {
			ones := strings.Repeat("1", length)
			wantPrune(t, one, strings.Repeat("0", length), none)
			wantPrune(t, every, strings.Repeat("0", length), none)
			if length == 0 {
				wantPrune(t, one, ones, none)
			} else {
				wantPrune(t, one, ones, "1"+none[1:])
			}
			if length < n {
				wantPrune(t, every, ones, none)
			} else {
				wantPrune(t, every, ones, ones[:n])
				wantPrune(t, every, ones[:n]+strings.Repeat("0", length), ones[:n])
				wantPrune(t, one, none+ones, none)
			}
		}
	}
}

// P8.2: an expression that is not valid has an empty list for every set.
func TestPruneOfWrongOnes(t *testing.T) {
	for i, e := range wrongOnes() {
		for _, set := range []string{"", "0", "1", "01", "11", "111111111", strings.Repeat("1", 100)} {
			if got := formula.Prune(e, marks(set)); len(got) != 0 {
				t.Errorf("Prune(wrong expression %d, %s) = %s", i, set, unmarks(got))
			}
		}
	}
}
