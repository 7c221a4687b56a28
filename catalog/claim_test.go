package catalog_test

import (
	"slices"
	"testing"

	"clusterlocks/api"
	"clusterlocks/catalog"
)

// atom returns a claim on a resource.
func atom(name string, mode, units int) api.Atom {
	return api.Atom{Name: name, Amount: api.Amount{Mode: mode, Units: units}}
}

// P5.3: an amount can be claimed of a resource of the catalog exactly if it fits; a zero amount cannot.
func TestResolve(t *testing.T) {
	l := []api.Resource{lock("a", 0), pool("p", 3, 1), pool("q", 1, 2), pool("r", 8, 3), lock("z", 3)}
	for _, r := range l {
		for _, mode := range numbers {
			for _, units := range numbers {
				want := api.ErrAmount
				if r.Kind == api.Lock && mode >= 1 && mode <= 5 && units == 0 || r.Kind == api.Pool && mode == 0 && units >= 1 && units <= r.Units {
					want = api.OK
				}
				if got := catalog.Resolve(l, atom(r.Name, mode, units)); got != want {
					t.Errorf("Resolve(%q, mode %d, %d units) = %d, want %d", r.Name, mode, units, got, want)
				}
			}
		}
	}
}

// P5.3: every resource of a catalog of any length can be claimed.
func TestResolveEveryPlace(t *testing.T) {
	for _, l := range validCatalogs() {
		for _, r := range l {
			fits, other := atom(r.Name, api.S, 0), atom(r.Name, 0, 1)
			if r.Kind == api.Pool {
				fits, other = atom(r.Name, 0, r.Units), atom(r.Name, 0, r.Units+1)
			}
			if got := catalog.Resolve(l, fits); got != api.OK {
				t.Errorf("Resolve(%+v, %+v) = %d", l, fits, got)
			}
			if got := catalog.Resolve(l, other); got != api.ErrAmount {
				t.Errorf("Resolve(%+v, %+v) = %d", l, other, got)
			}
		}
	}
}

// P5.3: a name that the catalog does not have is unknown, whatever is claimed of it.
func TestResolveUnknown(t *testing.T) {
	for _, l := range validCatalogs() {
		for _, name := range slices.Concat(between, noNames) {
			if hasName(l, name) {
				continue
			}
			for _, a := range []api.Atom{atom(name, api.X, 0), atom(name, 0, 1), atom(name, 0, 0), atom(name, 9, 9)} {
				if got := catalog.Resolve(l, a); got != api.ErrUnknown {
					t.Errorf("Resolve(%+v, %+v) = %d", l, a, got)
				}
			}
		}
	}
}

// P5.3: nothing can be claimed of a catalog that is not valid.
func TestResolveInvalid(t *testing.T) {
	for _, l := range invalidCatalogs() {
		for _, name := range []string{l[0].Name, l[len(l)-1].Name, "unknown", "", "all"} {
			for _, a := range []api.Atom{atom(name, api.X, 0), atom(name, 0, 1), atom(name, 0, 0), atom(name, 9, 9)} {
				if got := catalog.Resolve(l, a); got != api.ErrInvalid {
					t.Errorf("Resolve(%+v, %+v) = %d", l, a, got)
				}
			}
		}
	}
}

// P5.3: At returns the resources with this home in the order of the list, each as often as it is there, whether the list is valid or not.
func TestAt(t *testing.T) {
	table := []struct {
		l    []api.Resource
		site int
		want []api.Resource
	}{
		{nil, 0, nil},
		{[]api.Resource{lock("a", 0), pool("b", 2, 1), lock("c", 0)}, 0, []api.Resource{lock("a", 0), lock("c", 0)}},
		{[]api.Resource{lock("a", 0), pool("b", 2, 1), lock("c", 0)}, 1, []api.Resource{pool("b", 2, 1)}},
		{[]api.Resource{lock("a", 0), pool("b", 2, 1), lock("c", 0)}, 2, nil},
		{[]api.Resource{lock("c", 3), lock("b", 3), lock("a", 3), lock("c", 3)}, 3, []api.Resource{lock("c", 3), lock("b", 3), lock("a", 3), lock("c", 3)}},
		{[]api.Resource{lock("a", 9), {}, {Name: "?", Home: -1}, {Kind: 5, Units: -5}}, 0, []api.Resource{{}, {Kind: 5, Units: -5}}},
	}
	for _, x := range table {
		if got := catalog.At(x.l, x.site); !slices.Equal(got, x.want) {
			t.Errorf("At(%+v, %d) = %+v", x.l, x.site, got)
		}
	}
}

// P5.3: At of every number as a site, also of those that are none.
func TestAtEverySite(t *testing.T) {
	var l []api.Resource
	for i, home := range slices.Concat(numbers, numbers) {
		l = append(l, api.Resource{Units: i, Home: home})
	}
	for _, site := range numbers {
		var want []api.Resource
		for _, r := range l {
			if r.Home == site {
				want = append(want, r)
			}
		}
		if got := catalog.At(l, site); len(got) != 2 || !slices.Equal(got, want) {
			t.Errorf("At %d = %+v", site, got)
		}
	}
	if got := catalog.At(l, 12345); len(got) != 0 {
		t.Errorf("At a home that no resource has = %+v", got)
	}
}
