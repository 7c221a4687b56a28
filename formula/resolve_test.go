package formula_test

import (
	"slices"
	"testing"

	"clusterlocks/api"
	"clusterlocks/catalog"
	"clusterlocks/formula"
	"clusterlocks/request"
)

// resources are a valid catalog.
func resources() []api.Resource {
	return []api.Resource{
		{Name: "a", Kind: api.Lock, Units: 1}, {Name: "b", Kind: api.Lock, Units: 1, Home: 3},
		{Name: "p", Kind: api.Pool, Units: 2, Home: 1}, {Name: "q", Kind: api.Pool, Units: 8},
	}
}

// wrongCatalogs returns catalogs that are not valid.
func wrongCatalogs() [][]api.Resource {
	l := resources()
	home, kind, twice, many := resources(), resources(), slices.Insert(resources(), 1, l[0]), resources()
	home[3].Home = 4
	kind[2].Kind = 3
	for _, name := range []string{"r", "s", "t", "u", "v"} {
		many = append(many, api.Resource{Name: name, Kind: api.Lock, Units: 1})
	}
	return [][]api.Resource{{l[1], l[0]}, {{}}, home, kind, twice, many}
}

// wantResolve reports it if Resolve of e is not this.
func wantResolve(t *testing.T, l []api.Resource, e api.Expr, want api.Errno) {
	t.Helper()
	if got := formula.Resolve(l, e); got != want {
		t.Errorf("Resolve(%+v, %s) = %d, want %d", l, request.FormatExpr(e), got, want)
	}
}

// P8.4: all atoms can be claimed, or the first one that cannot has the error.
func TestResolve(t *testing.T) {
	for text, want := range map[string]api.Errno{
		"a:X": api.OK, "b:IS": api.OK, "p*2": api.OK, "q*8": api.OK, "all(a:X, p*2)": api.OK, "any(q*1, all(p*1, b:SIX), 2 of (a:S, a:S, q*1))": api.OK,
		"c:X": api.ErrUnknown, "c*1": api.ErrUnknown, "aa:S": api.ErrUnknown,
		"a*1": api.ErrAmount, "p*3": api.ErrAmount, "p*8": api.ErrAmount, "p:S": api.ErrAmount, "q:IS": api.ErrAmount,
		"all(a:X, c:X)": api.ErrUnknown, "all(a:X, p*3)": api.ErrAmount, "all(p*3, a:X)": api.ErrAmount, "any(a:X, c:X)": api.ErrUnknown, "any(a:X, p*3)": api.ErrAmount,
		"all(c:S, p*3)": api.ErrUnknown, "all(p*3, c:S)": api.ErrAmount, "all(a:S, all(b:S, all(p:S)), c*1)": api.ErrAmount, "all(a:S, all(b:S, all(c*1)), p:S)": api.ErrUnknown,
		"any(a:S, b:S, p*1, q*1, r*1)": api.ErrUnknown, "2 of (a:S, b:S, p*1, q:S)": api.ErrAmount, "any(a:S, a:S, any(a:S, z:S))": api.ErrUnknown,
	} {
		wantResolve(t, resources(), expr(t, text), want)
	}
}

// P8.4: the error at each place of a request, ahead of another error.
func TestResolveEveryPlace(t *testing.T) {
	good := []api.Expr{lock("a", api.X), pool("p", 2), lock("b", api.IX), pool("q", 8)}
	unknown, amount := lock("c", api.S), pool("q", 1)
	for at := range 4 {
		small := resources()
		small[3] = api.Resource{Name: "q", Kind: api.Lock, Units: 1}
		l := slices.Clone(good[:3])
		wantResolve(t, small, all(l...), api.OK)
		wantResolve(t, small, all(slices.Insert(l, at, unknown)...), api.ErrUnknown)
		l = slices.Clone(good[:3])
		wantResolve(t, small, all(slices.Insert(l, at, amount)...), api.ErrAmount)
		l = slices.Clone(good[:3])
		wantResolve(t, small, group(1, slices.Insert(l, at, unknown, amount)...), api.ErrUnknown)
		l = slices.Clone(good[:3])
		wantResolve(t, small, group(2, slices.Insert(l, at, all(amount, unknown))...), api.ErrAmount)
	}
}

// P8.4: an error of any catalog and of random expressions is that of the first atom that has one.
func TestResolveOfMany(t *testing.T) {
	lists := append(wrongCatalogs(), nil, resources(), []api.Resource{
		{Name: "a", Kind: api.Lock, Units: 1}, {Name: "b", Kind: api.Pool, Units: 8}, {Name: "d", Kind: api.Lock, Units: 1}, {Name: "f", Kind: api.Pool, Units: 7}, {Name: "h", Kind: api.Pool, Units: 1},
	})
	counts := map[api.Errno]int{}
	for _, e := range slices.Concat(smallOnes(4), randomOnes(6, 1000)) {
		for _, l := range lists {
			want := api.OK
			for _, text := range atomTexts(e) {
				if want == api.OK {
					want = catalog.Resolve(l, expr(t, text).Atom)
				}
			}
			wantResolve(t, l, e, want)
			counts[want]++
		}
	}
	for _, err := range []api.Errno{api.OK, api.ErrInvalid, api.ErrUnknown, api.ErrAmount} {
		if counts[err] < 20 {
			t.Errorf("only %d cases of %d", counts[err], err)
		}
	}
}

// P8.4: an error of the expression comes ahead of one of the catalog, which comes ahead of one of an atom.
func TestResolveErrors(t *testing.T) {
	for _, l := range wrongCatalogs() {
		for _, e := range []api.Expr{lock("a", api.X), lock("c", api.X), pool("a", 1), all(lock("c", api.S), pool("p", 3)), group(1, lock("a", api.S), pool("p", 1))} {
			wantResolve(t, l, e, api.ErrInvalid)
		}
	}
	for _, l := range append(wrongCatalogs(), resources(), nil) {
		for i, e := range wrongOnes() {
			if got := formula.Resolve(l, e); got != api.ErrArg {
				t.Errorf("Resolve(%+v, wrong expression %d) = %d", l, i, got)
			}
		}
	}
	for _, none := range [][]api.Resource{nil, {}} {
		wantResolve(t, none, lock("a", api.X), api.ErrUnknown)
	}
}
