package formula_test

import (
	"math/bits"
	"slices"
	"strings"
	"testing"

	"clusterlocks/api"
	"clusterlocks/formula"
	"clusterlocks/request"
)

// wantAtoms reports it if the atoms of e do not have these texts.
func wantAtoms(t *testing.T, e api.Expr, want ...string) {
	t.Helper()
	var got []string
	for _, a := range formula.Atoms(e) {
		got = append(got, atomText(a))
	}
	if !slices.Equal(got, want) {
		t.Errorf("Atoms(%s) = %q, want %q", request.FormatExpr(e), got, want)
	}
}

// wantHolds reports it if Holds of e for a set is not this.
func wantHolds(t *testing.T, e api.Expr, set []bool, want bool) {
	t.Helper()
	if got := formula.Holds(e, set); got != want {
		t.Errorf("Holds(%s, %s) = %t", request.FormatExpr(e), unmarks(set), got)
	}
}

// wantHopeless reports it if Hopeless of e for a set is not this.
func wantHopeless(t *testing.T, e api.Expr, dead []bool, want bool) {
	t.Helper()
	if got := formula.Hopeless(e, dead); got != want {
		t.Errorf("Hopeless(%s, %s) = %t", request.FormatExpr(e), unmarks(dead), got)
	}
}

// P8.1: the different atoms, in the order of their first occurrence, at whatever depth that is.
func TestAtoms(t *testing.T) {
	for text, want := range map[string]string{
		"a:S":                                      "a:S",
		"p*8":                                      "p*8",
		"all(a:X)":                                 "a:X",
		"any(a:S, a:S, a:S)":                       "a:S",
		"any(b:S, a:S)":                            "b:S a:S",
		"all(b:S, any(a*2, b:S), c:X)":             "b:S a*2 c:X",
		"all(c:S, b:S, a:S, b:S, c:S)":             "c:S b:S a:S",
		"all(all(all(z*1)), y*1, all(x*1))":        "z*1 y*1 x*1",
		"all(x*1, all(all(z*1), y*1))":             "x*1 z*1 y*1",
		"all(any(d:IS, c:IS), any(c:IS, b:IX))":    "d:IS c:IS b:IX",
		"2 of (a1:SIX, a:SIX, a-:SIX, a_:SIX)":     "a1:SIX a:SIX a-:SIX a_:SIX",
		"all(h:S,g:S,f:S,e:S,d*4,c*4,b*4,a*4,c*4)": "h:S g:S f:S e:S d*4 c*4 b*4 a*4",
	} {
		wantAtoms(t, expr(t, text), strings.Fields(want)...)
	}
	for n := 1; n <= 8; n++ {
		l := letters(n)
		wantAtoms(t, all(l...), atomTexts(all(l...))...)
		slices.Reverse(l)
		wantAtoms(t, all(slices.Concat(l, l)...), atomTexts(all(l...))...)
		if got := formula.Atoms(all(l...)); len(got) != n || got[0] != l[0].Atom || got[n-1] != l[n-1].Atom {
			t.Errorf("Atoms of %d letters = %+v", n, got)
		}
	}
}

// P8.1: the atoms of all small expressions and of random ones, compared with those in their texts.
func TestAtomsOfMany(t *testing.T) {
	for _, e := range slices.Concat(smallOnes(6), randomOnes(2, 5000)) {
		wantAtoms(t, e, atomTexts(e)...)
	}
}

// P8.1: ordinary expressions hold for these sets and for no others.
func TestHolds(t *testing.T) {
	for text, want := range map[string]string{
		"a:S":                               "1",
		"any(a:S)":                          "1",
		"all(a:S, a:S)":                     "1",
		"all(a:S, b:S)":                     "11",
		"any(a:S, b:S)":                     "10 01 11",
		"2 of (a:S, b:S, c:S)":              "110 101 011 111",
		"any(all(a:S, b:S), c:S)":           "110 111 001 101 011",
		"all(any(a:S, b:S), c:S)":           "101 011 111",
		"2 of (a:S, all(b:S, c:S), d*1)":    "1110 1001 1101 1011 0111 1111",
		"all(a:S, any(b:S, all(a:S)))":      "10 11",
		"2 of (any(a:S, b:S), b:S, c:S)":    "010 101 110 011 111",
		"any(all(all(a:S, b:S)), all(b:S))": "01 11",
	} {
		wantForSets(t, expr(t, text), want, wantHolds)
	}
}

// wantForSets checks that something is true of e for these sets, and for no others; zeros at the end of a set may be left out.
func wantForSets(t *testing.T, e api.Expr, sets string, check func(*testing.T, api.Expr, []bool, bool)) {
	t.Helper()
	n := len(atomTexts(e))
	for i := range 1 << n {
		set := unmarks(bools(n, i))
		want := slices.Contains(strings.Fields(sets), set)
		check(t, e, marks(set), want)
		check(t, e, marks(strings.TrimRight(set, "0")), want)
	}
}

// P8.1: kids are counted as kids, also if two of them are equal: of every number of kids, and for every K.
func TestHoldsCountsKids(t *testing.T) {
	a, b := lock("a", api.S), lock("b", api.S)
	for n := 1; n <= 23; n++ {
		for x := 1; x <= n; x++ {
			for k := 1; k <= n; k++ {
				e := group(k, append(times(x, a), times(n-x, b)...)...)
				wantHolds(t, e, marks("1"), x >= k)
				wantHolds(t, e, marks("01"), x < n && n-x >= k)
				wantHolds(t, e, marks("11"), true)
				wantHolds(t, e, marks("00"), false)
				wantHopeless(t, e, marks("1"), x == n || n-x < k)
				wantHopeless(t, e, marks("01"), x < n && x < k)
				wantHopeless(t, e, marks("11"), true)
				wantHopeless(t, e, marks("00"), false)
			}
		}
	}
	twice := group(2, all(a, b), all(a, b), group(1, a, b))
	wantHolds(t, twice, marks("11"), true)
	wantHolds(t, twice, marks("10"), false)
}

// P8.1: "k of n" holds if at least k atoms are in the set, and is hopeless if more than n - k are dead.
func TestThresholds(t *testing.T) {
	for n := 1; n <= 8; n++ {
		for k := 1; k <= n; k++ {
			e := group(k, letters(n)...)
			for set := range 1 << n {
				count := bits.OnesCount(uint(set))
				wantHolds(t, e, bools(n, set), count >= k)
				wantHolds(t, all(all(e)), bools(n, set), count >= k)
				wantHopeless(t, e, bools(n, set), count > n-k)
				wantHopeless(t, all(all(e)), bools(n, set), count > n-k)
			}
		}
	}
}

// wantTruth reports it if Holds and Hopeless of e are not what its truth table says, for all sets.
func wantTruth(t *testing.T, e api.Expr) {
	t.Helper()
	table := truth(e)
	n := len(atomTexts(e))
	for set := range table {
		wantHolds(t, e, bools(n, set), table[set])
		possible := false
		for alive := range table {
			possible = possible || alive&set == 0 && table[alive]
		}
		wantHopeless(t, e, bools(n, set), !possible)
	}
}

// P8.1: Holds and Hopeless of all small expressions and of random ones, for all sets, compared with truth tables.
func TestTruthOfMany(t *testing.T) {
	for _, e := range slices.Concat(smallOnes(5), randomOnes(3, 400)) {
		wantTruth(t, e)
	}
}

// P8.1: ordinary expressions are hopeless for these sets and for no others.
func TestHopeless(t *testing.T) {
	for text, want := range map[string]string{
		"a:S":                     "1",
		"all(a:S, b:S)":           "10 01 11",
		"any(a:S, b:S)":           "11",
		"any(a:S, a:S)":           "1",
		"2 of (a:S, b:S, c:S)":    "110 101 011 111",
		"any(all(a:S, b:S), c:S)": "101 011 111",
		"all(any(a:S, b:S), c:S)": "001 110 101 011 111",
	} {
		wantForSets(t, expr(t, text), want, wantHopeless)
	}
}

// Definitions: indices behind the end of a set are not in it, elements behind the last atom do not matter.
func TestLengthsOfSets(t *testing.T) {
	for _, e := range []api.Expr{lock("a", api.S), all(letters(2)...), group(1, letters(2)...), group(2, letters(3)...), all(letters(8)...), group(1, letters(8)...), group(3, all(letters(5)...), letters(8)[7], letters(8)[6])} {
		table := truth(e)
		n := len(atomTexts(e))
		full := 1<<n - 1
		for length := range 20 {
			for _, rest := range []string{"", "1", "0", "11111111", strings.Repeat("01", 1000)} {
				ones := marks(strings.Repeat("1", length))
				if length < n {
					wantHolds(t, e, ones, table[1<<length-1])
					wantHopeless(t, e, ones, !table[full&^(1<<length-1)])
					continue
				}
				long := append(ones, marks(rest)...)
				wantHolds(t, e, long, true)
				wantHopeless(t, e, long, true)
				none := append(make([]bool, length), marks(rest)...)
				wantHolds(t, e, none, false)
				wantHopeless(t, e, none, false)
			}
		}
	}
}

// P8.1: an expression that is not valid has no atoms, does not hold and is not hopeless, for whatever set.
func TestTruthOfWrongOnes(t *testing.T) {
	for i, e := range wrongOnes() {
		if got := formula.Atoms(e); len(got) != 0 {
			t.Errorf("wrong expression %d has atoms: %+v", i, got)
		}
		for _, set := range []string{"", "0", "1", "01", "10", "11", "00", "111111111", "000000000", strings.Repeat("1", 100)} {
			if formula.Holds(e, marks(set)) || formula.Hopeless(e, marks(set)) {
				t.Errorf("wrong expression %d holds for %s, or is hopeless", i, set)
			}
		}
	}
}
