package formula_test

import (
	"slices"
	"testing"

	"clusterlocks/api"
	"clusterlocks/formula"
	"clusterlocks/request"
)

// wantClass reports it if the class of e is not this.
func wantClass(t *testing.T, e api.Expr, want int) {
	t.Helper()
	if got := formula.Class(e); got != want {
		t.Errorf("Class(%s) = %d, want %d", request.FormatExpr(e), got, want)
	}
}

// P8.3: the classes of ordinary expressions; what counts is what they mean, not how they are written.
func TestClass(t *testing.T) {
	for text, want := range map[string]int{
		"a:S": 1, "p*8": 1, "all(a:S)": 1, "any(a:S)": 1, "any(a:S, a:S)": 1, "all(a:S, a:S)": 1, "2 of (a:S, a:S, a:S)": 1, "all(any(a:S), all(all(a:S, a:S)))": 1,
		"all(a:S, b:S)": 2, "all(a:S, any(b:S))": 2, "all(all(a:S, b:S), all(c:S, b:S))": 2, "all(a:S, any(b:S, b:S))": 2, "any(all(a:S, p*1))": 2, "any(all(a:S, b:S), all(b:S, a:S))": 2, "3 of (a:S, a:S, b:S, b:S)": 2, "2 of (all(a:S, b:S), a:S, all(b:S, a:S, b:S))": 2, "3 of (a:S, b:S, any(a:S, b:S), all(a:S, b:S))": 2, "all(a:S, any(a:S, b:S), b:S)": 2,
		"any(a:S, b:S)": 3, "any(a:S, any(b:S, c:S))": 3, "all(any(a:S, b:S))": 3, "2 of (a:S, a:S, b:S, b:S)": 3, "all(any(a:S, b:S), any(b:S, a:S))": 3, "1 of (any(a:S, b:S), all(a:S, b:S))": 3, "2 of (a:S, b:S, any(a:S, b:S))": 3,
		"2 of (a:S, b:S, c:S)": 4, "any(a:S, all(a:S, b:S))": 4, "any(all(a:S, b:S), a:S)": 4, "all(a:S, any(a:S, b:S))": 4, "all(a:S, any(b:S, c:S))": 4, "all(any(a:S, b:S), c:S)": 4, "any(a:S, all(b:S, c:S))": 4, "any(all(a:S, b:S), c:S)": 4, "2 of (a:S, a:S, b:S)": 4, "2 of (a:S, b:S, b:S)": 4, "2 of (a:S, b:S, all(a:S, c:S))": 4, "7 of (a:S, b:S, c:S, d:S, e:S, f:S, g:S, h:S)": 4,
	} {
		wantClass(t, expr(t, text), want)
	}
}

// P8.3: "k of n".
func TestClassOfThresholds(t *testing.T) {
	for n := 1; n <= 8; n++ {
		for k := 1; k <= n; k++ {
			want := 4
			switch {
			case n == 1:
				want = 1
			case k == n:
				want = 2
			case k == 1:
				want = 3
			}
			e := group(k, letters(n)...)
			wantClass(t, e, want)
			wantClass(t, all(all(e)), want)
			wantClass(t, group(1, e, e), want)
			wantClass(t, all(e, e), want)
		}
	}
}

// P8.3: one atom, wherever it stands, that is less needed than the others, or stands alone less than the others do, makes the class 4.
func TestClassWithOneOddAtom(t *testing.T) {
	for n := 2; n <= 8; n++ {
		for odd := range n {
			l := letters(n)
			rest := slices.Concat(l[:odd], l[odd+1:])
			// The atoms first occur in the order of l, so that each index is the odd one once.
			loose, tight := slices.Clone(l), slices.Clone(l)
			loose[odd] = group(1, l[odd], all(l[(odd+1)%n]))
			tight[odd] = all(l[odd], l[(odd+1)%n])
			wantClass(t, all(loose...), 4)
			wantClass(t, group(1, tight...), 4)
			wantClass(t, group(1, all(l...), all(rest...)), 4)
			wantClass(t, all(group(1, l...), group(1, rest...)), 4)
		}
	}
}

// classOf returns the class of the expression with this truth table: one that needs each atom holds for one set, one that holds for each atom does not hold for one set.
func classOf(table []bool) int {
	count := 0
	for _, holds := range table {
		count += one(holds)
	}
	switch {
	case len(table) == 2:
		return 1
	case count == 1:
		return 2
	case count == len(table)-1:
		return 3
	}
	return 4
}

// P8.3: the class of all small expressions and of random ones, compared with truth tables.
func TestClassOfMany(t *testing.T) {
	counts := map[int]int{}
	for _, e := range slices.Concat(smallOnes(6), randomOnes(5, 3000)) {
		want := classOf(truth(e))
		wantClass(t, e, want)
		counts[want]++
	}
	for class := 1; class <= 4; class++ {
		if counts[class] < 100 {
			t.Errorf("only %d expressions of class %d", counts[class], class)
		}
	}
}

// P8.3: an expression that is not valid has the class 0.
func TestClassOfWrongOnes(t *testing.T) {
	for i, e := range wrongOnes() {
		if got := formula.Class(e); got != 0 {
			t.Errorf("Class(wrong expression %d) = %d", i, got)
		}
	}
}
