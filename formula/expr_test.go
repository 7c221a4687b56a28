package formula_test

import (
	"math/rand"
	"slices"
	"strconv"
	"strings"
	"testing"

	"clusterlocks/api"
	"clusterlocks/request"
)

// atom returns an atom, or what is nearly one.
func atom(name string, mode, units int) api.Expr {
	return api.Expr{Atom: api.Atom{Name: name, Amount: api.Amount{Mode: mode, Units: units}}}
}

func lock(name string, mode int) api.Expr {
	return atom(name, mode, 0)
}

func pool(name string, units int) api.Expr {
	return atom(name, 0, units)
}

// group returns a group, or what is nearly one.
func group(k int, kids ...api.Expr) api.Expr {
	return api.Expr{K: k, Kids: kids}
}

func all(kids ...api.Expr) api.Expr {
	return group(len(kids), kids...)
}

// times returns n copies of e.
func times(n int, e api.Expr) []api.Expr {
	return slices.Repeat([]api.Expr{e}, n)
}

// letters returns n different atoms.
func letters(n int) []api.Expr {
	var out []api.Expr
	for i := range n {
		out = append(out, lock(string(rune('a'+i)), i%5+1))
	}
	return out
}

// expr returns the expression whose text is s.
func expr(t *testing.T, s string) api.Expr {
	t.Helper()
	r, at, err := request.Parse(s)
	if err != api.OK {
		t.Fatalf("Parse(%q) = %d, %d", s, at, err)
	}
	return r.Expr
}

// marks returns the set that s writes, with a 1 for each index in it.
func marks(s string) []bool {
	var out []bool
	for _, c := range s {
		out = append(out, c == '1')
	}
	return out
}

// unmarks returns how a set is written.
func unmarks(set []bool) string {
	var s strings.Builder
	for _, in := range set {
		s.WriteString(strconv.Itoa(one(in)))
	}
	return s.String()
}

// one returns 1 for true and 0 for false.
func one(b bool) int {
	if b {
		return 1
	}
	return 0
}

// bools returns the set of n atoms whose number this is, if the atom with index i counts 1 << i.
func bools(n, number int) []bool {
	out := make([]bool, n)
	for i := range out {
		out[i] = number>>i&1 == 1
	}
	return out
}

// atomTexts returns the different texts of atoms in the canonical text of a valid expression, in order.
func atomTexts(e api.Expr) []string {
	var out []string
	for _, word := range strings.FieldsFunc(request.FormatExpr(e), func(c rune) bool { return strings.ContainsRune("(), ", c) }) {
		if strings.ContainsAny(word, ":*") && !slices.Contains(out, word) {
			out = append(out, word)
		}
	}
	return out
}

// atomText returns the text of an atom.
func atomText(a api.Atom) string {
	if a.Amount.Units > 0 {
		return a.Name + "*" + strconv.Itoa(a.Amount.Units)
	}
	return a.Name + ":" + []string{"", "IS", "IX", "S", "SIX", "X"}[a.Amount.Mode]
}

// truth returns, for each number of a set, whether a valid expression holds for it.
func truth(e api.Expr) []bool {
	texts := atomTexts(e)
	return column(e, texts, 1<<len(texts))
}

// column returns the truth of e for all sets of atoms with these texts: it adds up the columns of the kids.
func column(e api.Expr, texts []string, size int) []bool {
	out := make([]bool, size)
	if len(e.Kids) == 0 {
		at := slices.Index(texts, atomText(e.Atom))
		for n := range out {
			out[n] = n&(1<<at) != 0
		}
		return out
	}
	sums := make([]int, size)
	for _, kid := range e.Kids {
		for n, in := range column(kid, texts, size) {
			sums[n] += one(in)
		}
	}
	for n := range out {
		out[n] = sums[n] >= e.K
	}
	return out
}

// smallOnes returns all expressions over three atoms with at most this number of nodes.
func smallOnes(nodes int) []api.Expr {
	var out []api.Expr
	for n := 1; n <= nodes; n++ {
		out = append(out, ofSize(n, api.MaxDepth)...)
	}
	return out
}

// ofSize returns all expressions with this number of nodes and at most this depth.
func ofSize(nodes, depth int) []api.Expr {
	if depth == 0 {
		return nil
	}
	if nodes == 1 {
		return []api.Expr{lock("b", api.S), pool("a", 2), lock("c", api.X)}
	}
	var out []api.Expr
	for _, kids := range listsOfSize(nodes-1, depth-1) {
		for k := 1; k <= len(kids); k++ {
			out = append(out, group(k, kids...))
		}
	}
	return out
}

// listsOfSize returns all lists of kids with this number of nodes in all.
func listsOfSize(nodes, depth int) [][]api.Expr {
	if nodes == 0 {
		return [][]api.Expr{nil}
	}
	var out [][]api.Expr
	for n := 1; n <= nodes; n++ {
		for _, first := range ofSize(n, depth) {
			for _, rest := range listsOfSize(nodes-n, depth) {
				out = append(out, append([]api.Expr{first}, rest...))
			}
		}
	}
	return out
}

// randomOnes returns valid expressions of all sizes.
func randomOnes(seed int64, count int) []api.Expr {
	random := rand.New(rand.NewSource(seed))
	var out []api.Expr
	for len(out) < count {
		if e := randomExpr(random, 4, min(8, 1+random.Intn(16))); request.ValidExpr(e) && (request.Nodes(e) > 4 || random.Intn(20) == 0) {
			out = append(out, e)
		}
	}
	return out
}

// randomExpr returns an expression of at most this depth and of so many different atoms; some have too many nodes.
func randomExpr(random *rand.Rand, depth, atoms int) api.Expr {
	if depth == 1 || random.Intn(5) == 0 {
		i := random.Intn(atoms)
		name := "hbgdecfa"[i : i+1]
		if i%3 == 0 {
			return pool(name, 1+i)
		}
		return lock(name, 1+i%5)
	}
	var kids []api.Expr
	for len(kids) == 0 || random.Intn(8) < 5 {
		kids = append(kids, randomExpr(random, depth-1, atoms))
	}
	return group(1+random.Intn(len(kids)), kids...)
}

// wrongOnes returns expressions that are not valid. Most of them hold for something if this is not seen.
func wrongOnes() []api.Expr {
	a, b := lock("a", api.S), pool("b", 2)
	endless := []api.Expr{a, b, {}}
	endless[2] = group(1, endless...)
	out := []api.Expr{
		{}, {K: 1}, {K: -1}, group(0, a), group(0, a, b), group(-1, a, b), group(3, a, b), group(1<<32+1, a, b), all(api.Expr{}), all(a, api.Expr{}), group(1, a, api.Expr{K: 1}),
		{K: 1, Atom: a.Atom}, {Atom: a.Atom, Kids: []api.Expr{b}}, {K: 1, Atom: a.Atom, Kids: []api.Expr{a}}, {K: 1, Atom: a.Atom, Kids: []api.Expr{b, a}}, {Atom: api.Atom{Name: "a"}}, group(1, a, api.Expr{K: 1, Atom: b.Atom}),
		lock("", api.S), lock("all", api.S), lock("A", api.S), lock("abcdefghijklm", api.S), lock("a", 0), lock("a", 6), lock("a", -1), pool("a", 9), pool("a", -1), atom("a", 1, 1), group(1, a, lock("of", api.X)),
		all(a, lock("a", api.X)), group(1, a, pool("a", 1)), group(1, b, pool("b", 3)), group(1, a, all(b, all(lock("a", api.IS)))),
		all(letters(9)...), group(1, letters(9)...), all(times(24, a)...), group(1, times(100, a)...), all(all(all(all(a)))), group(1, a, all(all(all(b)))),
		endless[2], group(1, endless...), all(a, endless[2]),
	}
	for _, k := range []int{-1, 0, 3} {
		for i := range 3 {
			kids := []api.Expr{a, b, a}
			kids[i] = group(k, a, b)
			out = append(out, group(1, kids...), all(kids...), group(1, a, all(kids...)))
		}
	}
	return out
}

// The lists of expressions that the tests go through are what they should be.
func TestListsOfExpressions(t *testing.T) {
	small := smallOnes(5)
	seen := map[string]bool{}
	for _, e := range small {
		seen[request.FormatExpr(e)] = true
	}
	if seen[""] || len(seen) != len(small) || len(small) < 500 {
		t.Errorf("%d small expressions, %d of them different", len(small), len(seen))
	}
	sizes, atoms := map[int]int{}, map[int]int{}
	for _, e := range randomOnes(1, 1000) {
		sizes[request.Nodes(e)]++
		atoms[len(atomTexts(e))]++
	}
	for n := 1; n <= 24; n++ {
		if sizes[n] < 1 && n != 2 && n != 3 && n != 4 || n <= 8 && atoms[n] < 20 {
			t.Errorf("%d random expressions with %d nodes, %d with %d atoms", sizes[n], n, atoms[n], n)
		}
	}
	for i, e := range wrongOnes() {
		if request.ValidExpr(e) {
			t.Errorf("wrong expression %d is valid", i)
		}
	}
}
