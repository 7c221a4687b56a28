package normal_test

import (
	"cmp"
	"math/rand"
	"slices"
	"strconv"
	"strings"
	"testing"

	"clusterlocks/api"
	"clusterlocks/request"
)

func lock(name string, mode int) api.Expr {
	return api.Expr{Atom: api.Atom{Name: name, Amount: api.Amount{Mode: mode}}}
}

func pool(name string, units int) api.Expr {
	return api.Expr{Atom: api.Atom{Name: name, Amount: api.Amount{Units: units}}}
}

// group returns a group, or what is nearly one.
func group(k int, kids ...api.Expr) api.Expr {
	return api.Expr{K: k, Kids: kids}
}

func all(kids ...api.Expr) api.Expr {
	return group(len(kids), kids...)
}

// letters returns the first n of nine different atoms, whose names do not ascend.
func letters(n int) []api.Expr {
	return []api.Expr{lock("h", api.S), pool("b", 2), lock("g", api.X), lock("d", api.IS), pool("e", 8), pool("c", 1), lock("f", api.SIX), lock("a", api.S), lock("i", api.IX)}[:n]
}

// atomsOf returns the atoms that these expressions are.
func atomsOf(l []api.Expr) []api.Atom {
	var out []api.Atom
	for _, e := range l {
		out = append(out, e.Atom)
	}
	return out
}

// expr returns the expression whose text is s.
func expr(t *testing.T, s string) api.Expr {
	t.Helper()
	r, at, err := request.Parse(s)
	if err != api.OK {
		t.Fatalf("Parse(%q) = %d, %d", s, at, err)
	}
	return r.Expr
}

// same reports whether a and b are the same expression.
func same(a, b api.Expr) bool {
	return a.K == b.K && a.Atom == b.Atom && slices.EqualFunc(a.Kids, b.Kids, same)
}

// wantExpr reports it if what came of a call is not this expression.
func wantExpr(t *testing.T, call string, got, want api.Expr) {
	t.Helper()
	if !same(got, want) {
		t.Errorf("%s = %s, %+v, want %s", call, request.FormatExpr(got), got, request.FormatExpr(want))
	}
}

// show returns how lists of at most nine indices are written: "2 01" means {2}, {0, 1}.
func show(sets [][]int) string {
	var words []string
	for _, set := range sets {
		word := ""
		for _, i := range set {
			word += strconv.Itoa(i)
		}
		words = append(words, word)
	}
	return strings.Join(words, " ")
}

// inOrder returns the different words, the shorter ones first, joined.
func inOrder(words []string) string {
	slices.SortFunc(words, func(a, b string) int { return cmp.Or(cmp.Compare(len(a), len(b)), cmp.Compare(a, b)) })
	return strings.Join(slices.Compact(words), " ")
}

// meant returns the atoms of a valid expression, in order.
func meant(e api.Expr) []api.Atom {
	var out []api.Atom
	if len(e.Kids) == 0 {
		return []api.Atom{e.Atom}
	}
	for _, kid := range e.Kids {
		for _, atom := range meant(kid) {
			if !slices.Contains(out, atom) {
				out = append(out, atom)
			}
		}
	}
	return out
}

// truth returns whether a valid expression holds for each number of a set of these atoms, in which the atom with index i counts 1 << i. It adds up the columns of the kids.
func truth(e api.Expr, atoms []api.Atom) []bool {
	out := make([]bool, 1<<len(atoms))
	if len(e.Kids) == 0 {
		at := slices.Index(atoms, e.Atom)
		for n := range out {
			out[n] = n&(1<<at) != 0
		}
		return out
	}
	counts := make([]int, len(out))
	for _, kid := range e.Kids {
		for n, holds := range truth(kid, atoms) {
			if holds {
				counts[n]++
			}
		}
	}
	for n := range out {
		out[n] = counts[n] >= e.K
	}
	return out
}

// samples returns valid expressions of all sizes, with one to eight different atoms.
func samples(seed int64, count int) []api.Expr {
	random := rand.New(rand.NewSource(seed))
	var out []api.Expr
	for i := range count {
		out = append(out, randomExpr(random, 1+i%api.MaxNodes, api.MaxDepth, picker(random, letters(1+random.Intn(8)))))
	}
	return out
}

// picker returns a function that returns one of the atoms: every other time, on average, a random one, otherwise each of them in turn, so that many atoms come early.
func picker(random *rand.Rand, atoms []api.Expr) func() api.Expr {
	next := -1
	return func() api.Expr {
		if random.Intn(2) == 0 {
			return atoms[random.Intn(len(atoms))]
		}
		next = (next + 1) % len(atoms)
		return atoms[next]
	}
}

// randomExpr returns an expression of picked atoms, with this number of nodes and of at most this depth, which is at least 2.
func randomExpr(random *rand.Rand, nodes, depth int, pick func() api.Expr) api.Expr {
	if nodes == 1 {
		return pick()
	}
	var kids []api.Expr
	for left := nodes - 1; left > 0; {
		size := 1
		if depth > 2 {
			size = 1 + random.Intn(min(left, 6))
		}
		kids = append(kids, randomExpr(random, size, depth-1, pick))
		left -= size
	}
	n := len(kids)
	return group([]int{1, n, 1 + random.Intn(n), (n + 1) / 2}[random.Intn(4)], kids...)
}

// wrongOnes returns expressions that are not valid. Most of them would mean something if this is not seen.
func wrongOnes() []api.Expr {
	a, b := lock("a", api.S), pool("b", 2)
	endless := []api.Expr{a, b, {}}
	endless[2] = group(1, endless...)
	return []api.Expr{
		{}, {K: 1}, {K: -1}, group(0, a), group(0, a, b), group(-1, a, b), group(3, a, b), group(1, a, group(0, b)), group(1, group(3, a, b), b),
		{K: 1, Atom: a.Atom}, {Atom: a.Atom, Kids: []api.Expr{b}}, {K: 1, Atom: a.Atom, Kids: []api.Expr{b}}, group(1, a, api.Expr{}), all(a, all(api.Expr{})),
		lock("", api.S), lock("all", api.S), lock("A", api.S), lock("a", 0), lock("a", 6), pool("a", 9), pool("a", -1), {Atom: api.Atom{Name: "a", Amount: api.Amount{Mode: 1, Units: 1}}},
		all(a, lock("a", api.X)), group(1, b, all(b, pool("b", 1))), all(letters(9)...), group(1, letters(9)...),
		all(all(all(all(a)))), group(1, a, all(all(all(b)))), all(slices.Repeat([]api.Expr{a}, 24)...), group(1, slices.Repeat([]api.Expr{b}, 100)...),
		endless[2], all(a, endless[2]),
	}
}

// The samples are valid and of all kinds, and the wrong expressions are not valid.
func TestSamples(t *testing.T) {
	nodes, depths, atoms := map[int]int{}, map[int]int{}, map[int]int{}
	for _, e := range samples(1, 2400) {
		if !request.ValidExpr(e) {
			t.Errorf("%+v is not valid", e)
		}
		nodes[request.Nodes(e)]++
		depths[request.Depth(e)]++
		atoms[len(meant(e))]++
	}
	if len(nodes) != 24 || len(depths) != 4 || len(atoms) != 8 || depths[4] < 500 || atoms[8] < 50 {
		t.Errorf("samples by nodes %v, depth %v and atoms %v", nodes, depths, atoms)
	}
	for i, e := range wrongOnes() {
		if request.ValidExpr(e) {
			t.Errorf("wrong expression %d is valid", i)
		}
	}
}
