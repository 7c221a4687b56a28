package normal_test

import (
	"slices"
	"testing"

	"clusterlocks/api"
	"clusterlocks/normal"
	"clusterlocks/request"
)

// wantSimple reports it if e is not simplified to this.
func wantSimple(t *testing.T, e, want api.Expr) {
	t.Helper()
	wantExpr(t, "Simplify("+request.FormatExpr(e)+")", normal.Simplify(e), want)
}

// P9.4: ordinary expressions.
func TestSimplify(t *testing.T) {
	for text, want := range map[string]string{
		"a:S":                                   "a:S",
		"p*8":                                   "p*8",
		"all(a:S)":                              "a:S",
		"any(all(all(p*2)))":                    "p*2",
		"any(any(a:S, b:S))":                    "any(a:S, b:S)",
		"all(any(all(a:S, b:S)))":               "all(a:S, b:S)",
		"all(2 of (a:S, b:S, c:S))":             "2 of (a:S, b:S, c:S)",
		"2 of (all(a:S), any(b:S), all(c:S))":   "2 of (a:S, b:S, c:S)",
		"all(a:S, any(all(b:S, c:S)), d:S)":     "all(a:S, b:S, c:S, d:S)",
		"any(all(any(a:S, b:S)), any(c:S))":     "any(a:S, b:S, c:S)",
		"all(all(all(a:S), b:S), c:S)":          "all(a:S, b:S, c:S)",
		"any(a:S, all(any(b:S, c:S)), d:S)":     "any(a:S, b:S, c:S, d:S)",
		"all(a:S, any(all(b:S), all(b:S)))":     "all(a:S, b:S)",
		"2 of (any(all(a:S)), a:S, all(b:S))":   "2 of (a:S, a:S, b:S)",
		"any(any(any(a:S, b:S), c:S), d:S)":     "any(a:S, b:S, c:S, d:S)",
		"any(a:S, any(b:S, any(c:S, d:S)))":     "any(a:S, b:S, c:S, d:S)",
		"all(all(a:S, b:S), c:S, all(d:S))":     "all(a:S, b:S, c:S, d:S)",
		"all(a:S, all(b:S, all(c:S, a:S)))":     "all(a:S, b:S, c:S)",
		"all(all(a:S, b:S), all(c:S, d:S))":     "all(a:S, b:S, c:S, d:S)",
		"any(any(c:S, d:S), any(a:S, b:S))":     "any(c:S, d:S, a:S, b:S)",
		"all(any(a:S, b:S), any(c:S, d:S))":     "all(any(a:S, b:S), any(c:S, d:S))",
		"any(all(a:S, b:S), all(c:S, d:S))":     "any(all(a:S, b:S), all(c:S, d:S))",
		"2 of (all(a:S, b:S), any(c:S, d:S))":   "all(a:S, b:S, any(c:S, d:S))",
		"1 of (all(a:S, b:S), any(c:S, d:S))":   "any(all(a:S, b:S), c:S, d:S)",
		"all(2 of (a:S, b:S, c:S), all(d:S))":   "all(2 of (a:S, b:S, c:S), d:S)",
		"all(a:S, any(b:S, 2 of (a:S, b:S)))":   "all(a:S, any(b:S, all(a:S, b:S)))",
		"any(all(a:S, all(b:S, c:S)), a:S)":     "any(all(a:S, b:S, c:S), a:S)",
		"all(any(a:S, any(b:S, c:S)), a:S)":     "all(any(a:S, b:S, c:S), a:S)",
		"2 of (all(a:S, all(b:S)), b:S, c:S)":   "2 of (all(a:S, b:S), b:S, c:S)",
		"2 of (any(a:S, any(b:S)), b:S, c:S)":   "2 of (any(a:S, b:S), b:S, c:S)",
		"all(2 of (a:S, b:S), 2 of (c:S, d*1))": "all(a:S, b:S, c:S, d*1)",
	} {
		wantSimple(t, expr(t, text), expr(t, want))
	}
}

// P9.4: kids that are equal to an earlier one go, behind what was opened as well; in groups with another K they stay.
func TestSimplifyEqualKids(t *testing.T) {
	for text, want := range map[string]string{
		"any(a:S, a:S)":                                                       "a:S",
		"all(a:S, a:S, a:S)":                                                  "a:S",
		"any(a:S, b:S, a:S)":                                                  "any(a:S, b:S)",
		"any(b:S, a:S, a:S, c:S, b:S)":                                        "any(b:S, a:S, c:S)",
		"all(b:S, a:S, a:S, c:S, b:S)":                                        "all(b:S, a:S, c:S)",
		"any(a:S, any(b:S, a:S))":                                             "any(a:S, b:S)",
		"any(any(b:S, a:S), any(a:S, c:S), b:S)":                              "any(b:S, a:S, c:S)",
		"all(all(b:S, a:S), all(a:S, c:S), b:S)":                              "all(b:S, a:S, c:S)",
		"all(a:S, all(a:S))":                                                  "a:S",
		"any(all(a:S, b:S), all(a:S, b:S))":                                   "all(a:S, b:S)",
		"any(all(a:S, b:S), all(b:S, a:S))":                                   "any(all(a:S, b:S), all(b:S, a:S))",
		"any(all(a:S, b:S), all(a:S, c:S))":                                   "any(all(a:S, b:S), all(a:S, c:S))",
		"any(all(a:S, b:S), all(a:S, b:S, c:S))":                              "any(all(a:S, b:S), all(a:S, b:S, c:S))",
		"any(all(a:S, b:S, c:S), all(a:S, b:S))":                              "any(all(a:S, b:S, c:S), all(a:S, b:S))",
		"any(a:S, all(a:S, b:S))":                                             "any(a:S, all(a:S, b:S))",
		"all(any(a:S, a:S), any(a:S, b:S))":                                   "all(a:S, any(a:S, b:S))",
		"all(any(all(a:S), a:S), all(a:S, a:S))":                              "a:S",
		"all(c:S, any(all(a:S, b:S), all(a:S, b:S, a:S)))":                    "all(c:S, a:S, b:S)",
		"any(2 of (a:S, b:S, c:S), 2 of (a:S, b:S, c:S))":                     "2 of (a:S, b:S, c:S)",
		"any(2 of (a:S, b:S, c:S, d:S), 3 of (a:S, b:S, c:S, d:S))":           "any(2 of (a:S, b:S, c:S, d:S), 3 of (a:S, b:S, c:S, d:S))",
		"all(3 of (a:S, b:S, c:S, d:S), 2 of (a:S, b:S, c:S, d:S))":           "all(3 of (a:S, b:S, c:S, d:S), 2 of (a:S, b:S, c:S, d:S))",
		"all(any(a:S, b:S, c:S), 2 of (a:S, b:S, c:S))":                       "all(any(a:S, b:S, c:S), 2 of (a:S, b:S, c:S))",
		"any(all(a:S, b:S, c:S), 2 of (a:S, b:S, c:S))":                       "any(all(a:S, b:S, c:S), 2 of (a:S, b:S, c:S))",
		"all(any(2 of (a:S, b:S, c:S), c:S), any(2 of (a:S, b:S, c:S), c:S))": "any(2 of (a:S, b:S, c:S), c:S)",
		"all(any(2 of (a:S, b:S, c:S), c:S), any(2 of (a:S, b:S, d:S), c:S))": "all(any(2 of (a:S, b:S, c:S), c:S), any(2 of (a:S, b:S, d:S), c:S))",
		"2 of (a:S, a:S, b:S)":                                                "2 of (a:S, a:S, b:S)",
		"2 of (a:S, a:S, a:S)":                                                "2 of (a:S, a:S, a:S)",
		"2 of (any(a:S, a:S), all(a:S, a:S), b:S)":                            "2 of (a:S, a:S, b:S)",
		"any(a:S, all(b:S, any(c:S, d:S, c:S)))":                              "any(a:S, all(b:S, any(c:S, d:S)))",
		"2 of (2 of (a:S, a:S, b:S), any(a:S, b:S), b:S)":                     "2 of (2 of (a:S, a:S, b:S), any(a:S, b:S), b:S)",
		"2 of (2 of (a:S, b:S, c:S), all(a:S, b:S), 2 of (a:S, b:S, c:S))":    "2 of (2 of (a:S, b:S, c:S), all(a:S, b:S), 2 of (a:S, b:S, c:S))",
		"2 of (all(a:S), any(b:S, any(c:S)), c:S)":                            "2 of (a:S, any(b:S, c:S), c:S)",
	} {
		wantSimple(t, expr(t, text), expr(t, want))
	}
}

// P9.4: chains of groups with one kid, and groups of equal kids, of every size.
func TestSimplifyToAKid(t *testing.T) {
	a := lock("a", api.S)
	for n := 1; n <= 23; n++ {
		kids := slices.Repeat([]api.Expr{a}, n)
		wantSimple(t, all(kids...), a)
		wantSimple(t, group(1, kids...), a)
		for k := 2; k < n; k++ {
			wantSimple(t, group(k, kids...), group(k, kids...))
		}
	}
	for _, e := range []api.Expr{a, pool("p", 2), all(a, pool("p", 2)), group(1, a, pool("p", 2)), group(2, letters(3)...)} {
		wantSimple(t, all(e), e)
		wantSimple(t, all(all(e)), e)
		wantSimple(t, group(1, e, all(e)), e)
		wantSimple(t, all(e, all(e)), e)
	}
}

// rewritten returns e after one change that makes it simpler, the outermost and foremost one, and whether there is such a change.
func rewritten(e api.Expr) (api.Expr, bool) {
	n := len(e.Kids)
	if n == 1 {
		return e.Kids[0], true
	}
	for i, kid := range e.Kids {
		inner, changed := kid.Kids, false
		switch {
		case e.K == 1 && kid.K == 1 || e.K == n && kid.K > 0 && kid.K == len(kid.Kids):
			changed = true
		case e.K == 1 || e.K == n:
			changed = slices.ContainsFunc(e.Kids[:i], func(earlier api.Expr) bool { return same(earlier, kid) })
			inner = nil
		}
		if changed {
			kids := slices.Concat(e.Kids[:i], inner, e.Kids[i+1:])
			if e.K == n {
				return all(kids...), true
			}
			return group(1, kids...), true
		}
	}
	for i, kid := range e.Kids {
		if simpler, changed := rewritten(kid); changed {
			return group(e.K, slices.Concat(e.Kids[:i], []api.Expr{simpler}, e.Kids[i+1:])...), true
		}
	}
	return e, false
}

// P9.4: random expressions, compared with what single changes from the outside to the inside make of them.
func TestSimplifyMany(t *testing.T) {
	kept := 0
	for _, e := range samples(5, 12000) {
		want, changed := rewritten(e)
		if !changed {
			kept++
		}
		for changed {
			want, changed = rewritten(want)
		}
		wantSimple(t, e, want)
	}
	if kept < 600 || kept > 6000 {
		t.Errorf("%d of 12000 expressions are simple", kept)
	}
}

// P9.4: of an expression that is not valid comes a zero expression.
func TestSimplifyWrongOnes(t *testing.T) {
	for _, e := range wrongOnes() {
		wantExpr(t, "Simplify of a wrong expression", normal.Simplify(e), api.Expr{})
	}
}
