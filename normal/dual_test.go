package normal_test

import (
	"testing"

	"clusterlocks/api"
	"clusterlocks/normal"
	"clusterlocks/request"
)

// P9.2: the duals of ordinary expressions.
func TestDual(t *testing.T) {
	for text, want := range map[string]string{
		"a:S":                                   "a:S",
		"p*8":                                   "p*8",
		"all(a:S)":                              "all(a:S)",
		"all(a:S, b:S)":                         "any(a:S, b:S)",
		"any(b:S, a:S)":                         "all(b:S, a:S)",
		"any(a:S, a:S)":                         "all(a:S, a:S)",
		"2 of (a:S, b:S, c:S)":                  "2 of (a:S, b:S, c:S)",
		"3 of (a:S, b:S, c:S, d:S)":             "2 of (a:S, b:S, c:S, d:S)",
		"2 of (a:S, b:S, b:S, c:S, a:S)":        "4 of (a:S, b:S, b:S, c:S, a:S)",
		"any(a:S, all(b:S, c:S, p*2))":          "all(a:S, any(b:S, c:S, p*2))",
		"all(all(a:S), all(all(b:S, c:S)))":     "any(all(a:S), all(any(b:S, c:S)))",
		"2 of (any(a:S, b:S), all(c:S), a:S)":   "2 of (all(a:S, b:S), all(c:S), a:S)",
		"all(any(a:S, 2 of (b:S, b:S, c:S)))":   "all(all(a:S, 2 of (b:S, b:S, c:S)))",
		"3 of (a:S, b:S, c:S, all(a:S, b:S))":   "2 of (a:S, b:S, c:S, any(a:S, b:S))",
		"any(3 of (a:S, b:S, c:S, d:S), e:SIX)": "all(2 of (a:S, b:S, c:S, d:S), e:SIX)",
	} {
		wantExpr(t, "Dual("+text+")", normal.Dual(expr(t, text)), expr(t, want))
	}
}

// P9.2: the dual of "k of n".
func TestDualOfThresholds(t *testing.T) {
	atom := lock("a", api.S)
	for n := 1; n <= 23; n++ {
		var kids []api.Expr
		for range n {
			kids = append(kids, atom)
		}
		for k := 1; k <= n; k++ {
			wantExpr(t, "Dual", normal.Dual(group(k, kids...)), group(n+1-k, kids...))
		}
	}
}

// isDual reports whether a and b are alike but for the K of all groups, which is in both together one more than the number of kids.
func isDual(a, b api.Expr) bool {
	if len(a.Kids) == 0 {
		return same(a, b)
	}
	if len(a.Kids) != len(b.Kids) || a.Atom != b.Atom || a.K+b.K != len(a.Kids)+1 {
		return false
	}
	for i := range a.Kids {
		if !isDual(a.Kids[i], b.Kids[i]) {
			return false
		}
	}
	return true
}

// P9.2: the duals of random expressions.
func TestDualOfMany(t *testing.T) {
	for _, e := range samples(3, 4800) {
		if got := normal.Dual(e); !isDual(e, got) {
			t.Errorf("Dual(%s) = %s, %+v", request.FormatExpr(e), request.FormatExpr(got), got)
		}
	}
}

// P9.2: an expression that is not valid has a zero expression as its dual.
func TestDualOfWrongOnes(t *testing.T) {
	for _, e := range wrongOnes() {
		wantExpr(t, "Dual of a wrong expression", normal.Dual(e), api.Expr{})
	}
}
