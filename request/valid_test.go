package request_test

import (
	"math"
	"slices"
	"strings"
	"testing"

	"clusterlocks/api"
	"clusterlocks/request"
)

// numbers are ordinary numbers, those at the limits, and numbers that would be in range if they were cut to fewer bits.
var numbers = []int{
	-9, -4, -3, -2, -1, 0, 1, 2, 3, 4, 5, 6, 7, 8, 9, 10, 16, 24, 99, 999, 1000, 1001,
	1<<8 + 1, -1<<8 + 3, 1<<16 + 2, 1 << 32, 1<<32 + 1, 1<<32 + 3, -1<<32 + 2,
	math.MinInt, math.MinInt + 1, math.MinInt + 3, math.MaxInt, math.MaxInt - 1,
}

// names are names of all sorts.
var names = []string{
	"a", "z", "aa", "a0", "a9", "a_", "a-", "a-b_9", "abcdefghijkl", "a-----------", "z99999999999",
	"allx", "al", "any1", "an", "o", "off", "of-", "prio1", "pri", "priority", "limit-", "limits", "lock", "pool", "at", "x", "s", "is", "k",
}

// noNames are texts of all sorts that are no names.
var noNames = []string{
	"all", "any", "of", "prio", "limit",
	"", " ", "\x00", "\n", "*", "A", "S", "Z", "0", "9", "_", "-", "\xff", "9a", "_a", "-a", "Aa", "aA", "a ", " a", "a\n", "a.", "a:b", "a(b)", "a,b", "a*2",
	"abcdefghijklm", strings.Repeat("a", 256), strings.Repeat("a", 257), "\u00e9", "a\u00e9", "\u0430", "a\u0661",
}

// atom returns an atom, or what is nearly one.
func atom(name string, mode, units int) api.Expr {
	return api.Expr{Atom: api.Atom{Name: name, Amount: api.Amount{Mode: mode, Units: units}}}
}

func lock(name string, mode int) api.Expr {
	return atom(name, mode, 0)
}

func pool(name string, units int) api.Expr {
	return atom(name, 0, units)
}

// group returns a group, or what is nearly one.
func group(k int, kids ...api.Expr) api.Expr {
	return api.Expr{K: k, Kids: kids}
}

func all(kids ...api.Expr) api.Expr {
	return group(len(kids), kids...)
}

// times returns n copies of e.
func times(n int, e api.Expr) []api.Expr {
	return slices.Repeat([]api.Expr{e}, n)
}

// chain returns e within so many groups of one kid.
func chain(groups int, e api.Expr) api.Expr {
	for range groups {
		e = all(e)
	}
	return e
}

// letters returns n different atoms.
func letters(n int) []api.Expr {
	var out []api.Expr
	for i := range n {
		out = append(out, lock(string(rune('a'+i)), i%5+1))
	}
	return out
}

// wantValid reports it if the functions do not find e valid, or not invalid.
func wantValid(t *testing.T, e api.Expr, want bool) {
	t.Helper()
	if got := request.ValidExpr(e); got != want {
		t.Errorf("ValidExpr(%.300s) = %t", show(e), got)
	}
	if got := request.Valid(api.Request{Expr: e, Priority: 7, Limit: 1000}); got != want {
		t.Errorf("Valid of a request for %.300s = %t", show(e), got)
	}
	if got := request.FormatExpr(e); (got != "") != want {
		t.Errorf("FormatExpr(%.300s) = %q", show(e), got)
	}
	if got := request.Format(api.Request{Expr: e}); (got != "") != want {
		t.Errorf("Format of a request for %.300s = %q", show(e), got)
	}
}

// P7.1: an atom has a name, and the amount of a lock or of a pool.
func TestAtoms(t *testing.T) {
	for _, mode := range numbers {
		for _, units := range numbers {
			lock := mode >= 1 && mode <= 5 && units == 0
			pool := mode == 0 && units >= 1 && units <= 8
			for _, name := range []string{"a", "z-9"} {
				wantValid(t, atom(name, mode, units), lock || pool)
				wantValid(t, all(atom(name, mode, units)), lock || pool)
			}
			wantValid(t, atom("", mode, units), false)
			wantValid(t, atom("any", mode, units), false)
		}
	}
	for _, name := range names {
		wantValid(t, lock(name, api.S), true)
		wantValid(t, pool(name, 8), true)
		wantValid(t, group(1, lock(name, api.S), pool("other", 1)), true)
	}
	for _, name := range noNames {
		wantValid(t, lock(name, api.S), false)
		wantValid(t, pool(name, 8), false)
		wantValid(t, group(1, pool("other", 1), lock(name, api.S)), false)
	}
}

// P7.1: an atom has K 0, and a group has K from 1 to the number of its kids.
func TestK(t *testing.T) {
	for _, k := range numbers {
		e := lock("a", api.S)
		e.K = k
		wantValid(t, e, k == 0)
		wantValid(t, group(k), false)
		for n := 1; n <= 23; n++ {
			wantValid(t, group(k, times(n, lock("a", api.S))...), k >= 1 && k <= n)
			if n <= 22 {
				wantValid(t, all(group(k, times(n, lock("a", api.S))...)), k >= 1 && k <= n)
			}
		}
	}
}

// P7.1: a group has no atom, not even a part of one, and an atom has no kids.
func TestGroupsWithAtoms(t *testing.T) {
	wantValid(t, api.Expr{}, false)
	wantValid(t, all(api.Expr{}), false)
	for _, a := range []api.Expr{atom("a", 0, 0), atom("", 1, 0), atom("", 0, 1), atom("", -1, 0), lock("a", 1), pool("p", 1), lock("all", 1), atom("a", 1, 1)} {
		for k := -1; k <= 3; k++ {
			for _, kids := range [][]api.Expr{{lock("a", 1)}, {lock("a", 1), pool("p", 1)}, {all(lock("a", 1))}} {
				e := api.Expr{K: k, Atom: a.Atom, Kids: kids}
				wantValid(t, e, false)
				wantValid(t, group(1, lock("a", 1), e), false)
			}
		}
	}
}

// P7.1: a node that is neither an atom nor a group spoils the expression wherever it stands.
func TestOneWrongNode(t *testing.T) {
	e := group(2, lock("a", api.S), all(pool("p", 2), group(1, lock("b", api.X), lock("a", api.S))), lock("c", api.IX))
	wantValid(t, e, true)
	wrong := []api.Expr{{}, {K: 1}, group(0, lock("a", api.S)), group(2, lock("a", api.S)), group(-1, lock("a", api.S)), lock("", api.S), lock("of", api.S), lock("a", 0), lock("a", 6), pool("p", 9), atom("a", 1, 1)}
	for _, w := range wrong {
		for i := range 8 {
			n := 0
			wantValid(t, replaced(e, i, w, &n), false)
			if n != 8 {
				t.Fatalf("%d nodes", n)
			}
		}
	}
}

// replaced returns a copy of e in which node i stands for w; n counts the nodes of e.
func replaced(e api.Expr, i int, w api.Expr, n *int) api.Expr {
	at := *n
	*n++
	kids := slices.Clone(e.Kids)
	for j := range kids {
		kids[j] = replaced(kids[j], i, w, n)
	}
	if at == i {
		return w
	}
	e.Kids = kids
	return e
}

// P7.1: at most MaxAtoms different atoms, which may stand in the expression several times and at any depth.
func TestDifferentAtoms(t *testing.T) {
	for n := 1; n <= 23; n++ {
		l := letters(n)
		wantValid(t, all(l...), n <= 8)
		wantValid(t, group(1, l...), n <= 8)
		if n <= 11 {
			wantValid(t, all(slices.Concat(l, l)...), n <= 8)
		}
		if n <= 20 {
			wantValid(t, all(all(l[:n/2+1]...), all(all(append(l[n/2:], l[0])...))), n <= 8)
		}
	}
	nine := letters(9)
	for i := range nine {
		eight := slices.Concat(nine[:i], nine[i+1:])
		wantValid(t, all(eight...), true)
		wantValid(t, all(append(eight, nine[i])...), false)
	}
	// The same amount of different resources is that of different atoms.
	wantValid(t, all(pool("a", 1), pool("b", 1), pool("c", 1), pool("d", 1), pool("e", 1), pool("f", 1), pool("g", 1), pool("h", 1)), true)
	wantValid(t, all(pool("a", 1), pool("b", 1), pool("c", 1), pool("d", 1), pool("e", 1), pool("f", 1), pool("g", 1), pool("h", 1), pool("i", 1)), false)
}

// P7.1: no two different atoms have the same name, wherever they stand; equal ones may.
func TestSameName(t *testing.T) {
	var amounts []api.Amount
	for m := api.IS; m <= api.X; m++ {
		amounts = append(amounts, api.Amount{Mode: m})
	}
	for u := 1; u <= api.MaxUnits; u++ {
		amounts = append(amounts, api.Amount{Units: u})
	}
	for _, x := range amounts {
		for _, y := range amounts {
			a, b := atom("a", x.Mode, x.Units), atom("a", y.Mode, y.Units)
			c := lock("c", api.S)
			wantValid(t, all(a, b), x == y)
			wantValid(t, group(1, c, a, c, b), x == y)
			wantValid(t, all(a, all(all(c, b))), x == y)
			wantValid(t, all(all(all(a), c), b), x == y)
			wantValid(t, all(a, atom("aa", y.Mode, y.Units)), true)
		}
	}
}

// P7.1: depth and nodes within the limits and beyond them.
func TestLimits(t *testing.T) {
	a := lock("a", api.S)
	for groups := range 12 {
		e := chain(groups, a)
		want := groups + 1
		if groups > 3 {
			want = 0
		}
		wantSize(t, e, want, want)
		wantValid(t, e, groups <= 3)
		wantValid(t, chain(groups, all(a, a)), groups <= 2)
		wantValid(t, all(a, e), groups <= 2)
		wantValid(t, all(e, a), groups <= 2)
	}
	for n := 1; n <= 60; n++ {
		e := all(times(n, a)...)
		if n <= 23 {
			wantSize(t, e, n+1, 2)
		} else {
			wantSize(t, e, 0, 0)
		}
		wantValid(t, e, n <= 23)
		wantValid(t, all(all(times(n, a)...), a), n <= 21)
		wantValid(t, all(a, all(times(n, a)...)), n <= 21)
		wantValid(t, all(times(n, all(a))...), n <= 11)
		wantValid(t, all(times(n, all(all(a)))...), n <= 7)
	}
}

// wantSize reports it if Nodes and Depth of e are not these.
func wantSize(t *testing.T, e api.Expr, nodes, depth int) {
	t.Helper()
	if got := request.Nodes(e); got != nodes {
		t.Errorf("Nodes(%.300s) = %d, want %d", show(e), got, nodes)
	}
	if got := request.Depth(e); got != depth {
		t.Errorf("Depth(%.300s) = %d, want %d", show(e), got, depth)
	}
}

// P7.1: Nodes and Depth count all nodes, whether they are atoms, groups or neither.
func TestSizeOfAnything(t *testing.T) {
	odd := []api.Expr{{}, {K: 7}, lock("", 0), lock("all", 9), atom("a", 1, 1), {K: -1, Atom: api.Atom{Name: "a"}}}
	for _, e := range odd {
		wantSize(t, e, 1, 1)
		wantSize(t, group(0, e), 2, 2)
		wantSize(t, group(-5, e, e, e), 4, 2)
		wantSize(t, api.Expr{K: math.MaxInt, Atom: e.Atom, Kids: []api.Expr{e, all(e)}}, 4, 3)
		wantSize(t, chain(3, e), 4, 4)
		wantSize(t, chain(4, e), 0, 0)
		wantSize(t, group(99, times(23, e)...), 24, 2)
		wantSize(t, group(99, times(24, e)...), 0, 0)
	}
	wantSize(t, all(all(all(lock("a", 1))), lock("a", 2), all(lock("a", 3), lock("a", 4))), 8, 4)
	wantSize(t, all(lock("a", 1), all(lock("b", 2))), 4, 3)
	wantSize(t, all(all(lock("b", 2)), lock("a", 1)), 4, 3)
	wantSize(t, all(letters(20)...), 21, 2)
}

// P7.1: at 24 nodes and a depth of 4 together, and one more of either.
func TestBothLimits(t *testing.T) {
	a, three := lock("a", api.S), chain(2, lock("a", api.S))
	wantSize(t, all(append(times(20, a), three)...), 24, 4)
	wantSize(t, all(append(times(21, a), three)...), 0, 0)
	wantSize(t, all(append(times(2, a), all(three))...), 0, 0)
	wantValid(t, all(append(times(20, a), three)...), true)
	wantValid(t, all(append(times(21, a), three)...), false)
	wantValid(t, all(append(times(2, a), all(three))...), false)
}

// R1, P7.1: an expression that contains itself, and ones of very many nodes, are beyond the limits; this is soon found.
func TestEndless(t *testing.T) {
	one := make([]api.Expr, 1)
	one[0] = group(1, lock("a", 1))
	one[0].Kids = one
	two := make([]api.Expr, 3)
	for i := range two {
		two[i] = api.Expr{K: 1, Kids: two}
	}
	mixed := []api.Expr{lock("a", 1), pool("p", 1), {}}
	mixed[2] = api.Expr{K: 3, Kids: mixed}
	broad := group(1, times(100000, lock("a", 1))...)
	for _, e := range []api.Expr{one[0], two[1], mixed[2], broad, all(broad), group(1, times(100000, broad)...), chain(3, broad), chain(100000, lock("a", 1)), group(0, times(100000, broad)...)} {
		for range 1000 {
			if request.Nodes(e) != 0 || request.Depth(e) != 0 || request.ValidExpr(e) || request.FormatExpr(e) != "" {
				t.Fatal("an endless expression")
			}
		}
		if r := (api.Request{Expr: e}); request.Valid(r) || request.Format(r) != "" {
			t.Error("a request with an endless expression")
		}
	}
}

// P7.1: a request's Priority is from 0 to MaxPriority, its Limit from 0 to MaxLimit.
func TestValidRequest(t *testing.T) {
	for _, priority := range numbers {
		for _, limit := range numbers {
			want := priority >= 0 && priority <= 7 && limit >= 0 && limit <= 1000
			r := api.Request{Expr: lock("a", api.S), Priority: priority, Limit: limit}
			if got := request.Valid(r); got != want {
				t.Errorf("Valid(%+v) = %t", r, got)
			}
			if got := request.Format(r); (got != "") != want {
				t.Errorf("Format(%+v) = %q", r, got)
			}
			r.Expr = lock("a", 0)
			if request.Valid(r) || request.Format(r) != "" {
				t.Errorf("%+v is valid", r)
			}
		}
	}
	if request.Valid(api.Request{}) || request.Format(api.Request{}) != "" {
		t.Error("a zero request is valid")
	}
}
