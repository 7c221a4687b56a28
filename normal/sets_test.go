package normal_test

import (
	"testing"

	"clusterlocks/api"
	"clusterlocks/formula"
	"clusterlocks/normal"
	"clusterlocks/request"
)

// wantSets reports it if the minimal and the blocking sets of e are not these.
func wantSets(t *testing.T, e api.Expr, minimal, blocking string) {
	t.Helper()
	if got := show(normal.Minimal(e)); got != minimal {
		t.Errorf("Minimal(%s) = %s, want %s", request.FormatExpr(e), got, minimal)
	}
	if got := show(normal.Blocking(e)); got != blocking {
		t.Errorf("Blocking(%s) = %s, want %s", request.FormatExpr(e), got, blocking)
	}
}

// P9.1: the sets of ordinary expressions, by index of the first occurrence.
func TestSets(t *testing.T) {
	for _, x := range []struct{ e, minimal, blocking string }{
		{"a:S", "0", "0"},
		{"p*8", "0", "0"},
		{"all(a:S)", "0", "0"},
		{"2 of (a:S, a:S, a:S)", "0", "0"},
		{"all(a:S, b:S)", "01", "0 1"},
		{"any(a:S, b:S)", "0 1", "01"},
		{"all(b:S, a:S, b:S)", "01", "0 1"},
		{"2 of (a:S, b:S, c:S)", "01 02 12", "01 02 12"},
		{"2 of (a:S, a:S, b:S)", "0", "0"},
		{"2 of (a:S, b:S, b:S)", "1", "1"},
		// A set with fewer elements is ahead of others, wherever its elements are.
		{"any(all(a:S, b:S), c:S)", "2 01", "02 12"},
		{"any(all(a:S, b:S, c:S), all(d:S, e:S))", "34 012", "03 04 13 14 23 24"},
		{"all(any(a:S, b:S, c:S), d*4)", "03 13 23", "3 012"},
		// What others include is not minimal.
		{"any(a:S, all(a:S, b:S))", "0", "0"},
		{"any(all(a:S, b:S), a:S)", "0", "0"},
		{"all(any(a:S, b:S), b:S)", "1", "1"},
		{"any(all(a:S, b:S, c:S), all(c:S, a:S))", "02", "0 2"},
		{"all(a:S, any(b:S, c:S))", "01 02", "0 12"},
		// Of as many elements, the order is that of the least index in which they differ, and not that of all bits.
		{"any(all(b:S, c:S), all(a:S, d:S), all(a:S, c:S), all(b:S, d:S))", "01 03 12 23", "02 13"},
		{"2 of (a:S, b:S, c:S, d:S)", "01 02 03 12 13 23", "012 013 023 123"},
		{"all(2 of (a:S, b:S, c:S), 1 of (c:S, d:S))", "02 12 013", "01 02 12 23"},
	} {
		wantSets(t, expr(t, x.e), x.minimal, x.blocking)
	}
}

// choices returns the words of k digits that ascend, from this one up to n - 1.
func choices(from, k, n int) []string {
	if k == 0 {
		return []string{""}
	}
	var out []string
	for first := from; first < n; first++ {
		for _, rest := range choices(first+1, k-1, n) {
			out = append(out, string(rune('0'+first))+rest)
		}
	}
	return out
}

// P9.1: of "k of n" all sets of k atoms are minimal, and all sets of n - k + 1 block.
func TestSetsOfThresholds(t *testing.T) {
	for n := 1; n <= 8; n++ {
		for k := 1; k <= n; k++ {
			minimal, blocking := inOrder(choices(0, k, n)), inOrder(choices(0, n-k+1, n))
			e := group(k, letters(n)...)
			wantSets(t, e, minimal, blocking)
			wantSets(t, all(group(1, e)), minimal, blocking)
		}
	}
}

// minimalNumbers returns, in order, the sets whose numbers are in the table, and no proper subset's number is.
func minimalNumbers(table []bool) string {
	var out []string
	for n := range table {
		minimal, word := table[n], ""
		for part := range n {
			minimal = minimal && (part&^n != 0 || !table[part])
		}
		for i := range 8 {
			if n>>i&1 == 1 {
				word += string(rune('0' + i))
			}
		}
		if minimal {
			out = append(out, word)
		}
	}
	return inOrder(out)
}

// P9.1: the sets of random expressions, compared with truth tables.
func TestSetsOfMany(t *testing.T) {
	for _, e := range samples(2, 960) {
		holds := truth(e, formula.Atoms(e))
		hopeless := make([]bool, len(holds))
		for dead := range hopeless {
			hopeless[dead] = !holds[len(holds)-1-dead]
		}
		wantSets(t, e, minimalNumbers(holds), minimalNumbers(hopeless))
	}
}

// P9.1: an expression that is not valid has no sets.
func TestSetsOfWrongOnes(t *testing.T) {
	for i, e := range wrongOnes() {
		minimal, blocking := normal.Minimal(e), normal.Blocking(e)
		if len(minimal) != 0 || len(blocking) != 0 {
			t.Errorf("wrong expression %d: Minimal = %v, Blocking = %v", i, minimal, blocking)
		}
	}
}
