package catalog_test

import (
	"slices"
	"strings"
	"testing"

	"clusterlocks/api"
	"clusterlocks/catalog"
)

// between are names that are ahead of, between and behind those of validCatalogs, and some of those.
var between = []string{"a", "a-", "a0", "a1", "a9", "a_", "aa", "ab", "b", "c", "d", "e", "f", "g", "h", "i", "j", "k", "l", "m", "n", "o", "p", "q", "z", "zz", "at", "lock", "pool"}

// hasName says whether a resource of l has this name.
func hasName(l []api.Resource, name string) bool {
	return slices.ContainsFunc(l, func(r api.Resource) bool { return r.Name == name })
}

// sorted returns a copy of l, by names.
func sorted(l []api.Resource) []api.Resource {
	out := slices.Clone(l)
	slices.SortFunc(out, func(a, b api.Resource) int { return strings.Compare(a.Name, b.Name) })
	return out
}

// P5.2: Find finds every resource of a catalog, and nothing else.
func TestFind(t *testing.T) {
	for _, l := range validCatalogs() {
		for _, want := range l {
			if got, ok := catalog.Find(l, want.Name); got != want || !ok {
				t.Errorf("Find(%+v, %q) = %+v, %t", l, want.Name, got, ok)
			}
		}
		for _, name := range slices.Concat(between, noNames) {
			if hasName(l, name) {
				continue
			}
			if got, ok := catalog.Find(l, name); got != (api.Resource{}) || ok {
				t.Errorf("Find(%+v, %q) = %+v, %t", l, name, got, ok)
			}
		}
	}
}

// P5.2: Find returns the first resource of the name in lists that are not valid, too.
func TestFindInvalid(t *testing.T) {
	for _, l := range invalidCatalogs() {
		for i, r := range l {
			want := l[slices.IndexFunc(l[:i+1], func(q api.Resource) bool { return q.Name == r.Name })]
			if got, ok := catalog.Find(l, r.Name); got != want || !ok {
				t.Errorf("Find(%+v, %q) = %+v, %t", l, r.Name, got, ok)
			}
		}
	}
	l := []api.Resource{lock("z", 0), lock("x", 1), lock("y", 2), pool("x", 2, 3), {}, lock("", 9), lock("x", 0)}
	for name, want := range map[string]api.Resource{"z": l[0], "x": l[1], "y": l[2], "": {}} {
		if got, ok := catalog.Find(l, name); got != want || !ok {
			t.Errorf("Find of %q = %+v, %t", name, got, ok)
		}
	}
	long := slices.Repeat(locks("c", "b"), 100000)
	if got, ok := catalog.Find(append(long, pool("a", 1, 1), lock("a", 1)), "a"); got != pool("a", 1, 1) || !ok {
		t.Errorf("Find in a long list = %+v, %t", got, ok)
	}
}

// P5.2: Insert puts a resource at its place in the order, wherever that is.
func TestInsert(t *testing.T) {
	for _, l := range validCatalogs() {
		for _, name := range between {
			if hasName(l, name) || len(l) == 8 {
				continue
			}
			for _, r := range []api.Resource{lock(name, 0), lock(name, 3), pool(name, 1, 2), pool(name, 8, 1)} {
				want := sorted(append(slices.Clone(l), r))
				if got, err := catalog.Insert(l, r); !slices.Equal(got, want) || err != api.OK {
					t.Errorf("Insert(%+v, %+v) = %+v, %d", l, r, got, err)
				}
			}
		}
	}
}

// P5.2: Insert of a resource that exists, in a full catalog, too, and of one more than there may be.
func TestInsertRefuses(t *testing.T) {
	for _, l := range validCatalogs() {
		for _, name := range between {
			for _, r := range []api.Resource{lock(name, 1), pool(name, 3, 2)} {
				want := api.OK
				switch {
				case hasName(l, name):
					want = api.ErrExists
				case len(l) == 8:
					want = api.ErrTooMany
				}
				got, err := catalog.Insert(l, r)
				if err != want || err != api.OK && len(got) != 0 {
					t.Errorf("Insert(%+v, %+v) = %+v, %d, want error %d", l, r, got, err, want)
				}
			}
		}
	}
}

// insertErrors returns the errors that apply to Insert, in the chapter's order.
func insertErrors(l []api.Resource, r api.Resource) []api.Errno {
	all := []struct {
		applies bool
		err     api.Errno
	}{
		{!catalog.Valid(l), api.ErrInvalid},
		{!catalog.ValidName(r.Name), api.ErrName},
		{!catalog.ValidResource(r), api.ErrArg},
		{hasName(l, r.Name), api.ErrExists},
		{len(l) >= 8, api.ErrTooMany},
	}
	var out []api.Errno
	for _, x := range all {
		if x.applies {
			out = append(out, x.err)
		}
	}
	return out
}

// P5.2: of several errors of Insert, the one named first is returned, without a catalog.
func TestInsertOrderOfErrors(t *testing.T) {
	full := locks("b", "d", "f", "h", "j", "l", "n", "p")
	rs := append([]api.Resource{lock("b", 0), lock("z", 9), pool("a", 9, 0), lock("Z", 0), pool("any", 9, 9), pool("j", 0, 0), {}}, invalidResources...)
	met := map[int]bool{}
	for _, l := range append(invalidCatalogs(), nil, locks("b"), locks("a", "b", "c"), full, append(full, full...)) {
		for _, r := range rs {
			errs := append(insertErrors(l, r), api.OK)
			met[len(errs)] = true
			got, err := catalog.Insert(l, r)
			if err != errs[0] || err != api.OK && len(got) != 0 {
				t.Errorf("Insert(%+v, %+v) = %+v, %d, want error %d", l, r, got, err, errs[0])
			}
		}
	}
	for n := 1; n <= 5; n++ {
		if !met[n] {
			t.Errorf("no call to which %d errors apply", n-1)
		}
	}
}

// P5.2: the chapter's order of the errors of Insert, a case for each.
func TestInsertErrors(t *testing.T) {
	full := locks("b", "d", "f", "h", "j", "l", "n", "p")
	table := []struct {
		l    []api.Resource
		r    api.Resource
		want api.Errno
	}{
		{locks("b", "a"), lock("c", 0), api.ErrInvalid},
		{locks("b", "a"), lock("all", 9), api.ErrInvalid},
		{locks("b", "a"), lock("a", 0), api.ErrInvalid},
		{locks("a", "b", "c", "d", "e", "f", "g", "h", "i"), lock("j", 0), api.ErrInvalid},
		{nil, lock("", 0), api.ErrName},
		{nil, pool("of", 9, 9), api.ErrName},
		{full, lock("B", 0), api.ErrName},
		{nil, api.Resource{}, api.ErrName},
		{nil, lock("a", 4), api.ErrArg},
		{nil, pool("a", 0, 0), api.ErrArg},
		{full, pool("b", 9, 0), api.ErrArg},
		{full, api.Resource{Name: "c", Kind: 7, Units: 1}, api.ErrArg},
		{locks("a"), lock("a", 0), api.ErrExists},
		{full, pool("p", 1, 0), api.ErrExists},
		{full, lock("a", 0), api.ErrTooMany},
		{full, pool("q", 1, 0), api.ErrTooMany},
	}
	for _, x := range table {
		if got, err := catalog.Insert(x.l, x.r); len(got) != 0 || err != x.want {
			t.Errorf("Insert(%+v, %+v) = %+v, %d, want error %d", x.l, x.r, got, err, x.want)
		}
	}
}

// P5.2: Remove takes out the resource of the name, wherever it stands.
func TestRemove(t *testing.T) {
	for _, l := range validCatalogs() {
		for i, r := range l {
			want := slices.Concat(l[:i], l[i+1:])
			if got, err := catalog.Remove(l, r.Name); !slices.Equal(got, want) || err != api.OK {
				t.Errorf("Remove(%+v, %q) = %+v, %d", l, r.Name, got, err)
			}
		}
	}
}

// P5.2: Remove of a name that no resource has, and from a catalog that is not valid.
func TestRemoveRefuses(t *testing.T) {
	for _, l := range validCatalogs() {
		for _, name := range slices.Concat(between, noNames) {
			if hasName(l, name) {
				continue
			}
			if got, err := catalog.Remove(l, name); len(got) != 0 || err != api.ErrUnknown {
				t.Errorf("Remove(%+v, %q) = %+v, %d", l, name, got, err)
			}
		}
	}
	for _, l := range invalidCatalogs() {
		for _, name := range []string{l[0].Name, l[len(l)-1].Name, "q", "", "all"} {
			if got, err := catalog.Remove(l, name); len(got) != 0 || err != api.ErrInvalid {
				t.Errorf("Remove(%+v, %q) = %+v, %d", l, name, got, err)
			}
		}
	}
}

// Consequences: Insert and Remove undo each other, and keep catalogs valid.
func TestInsertAndRemoveUndoEachOther(t *testing.T) {
	for _, l := range validCatalogs() {
		for _, name := range between {
			more, err := catalog.Insert(l, pool(name, 5, 2))
			if err != api.OK {
				continue
			}
			back, err := catalog.Remove(more, name)
			if !slices.Equal(back, l) || err != api.OK || !catalog.Valid(more) {
				t.Errorf("%+v with %q: %+v, and without it: %+v, %d", l, name, more, back, err)
			}
		}
		for _, r := range l {
			less, err := catalog.Remove(l, r.Name)
			if err != api.OK || !catalog.Valid(less) {
				t.Errorf("Remove(%+v, %q) = %+v, %d", l, r.Name, less, err)
			}
			if back, err := catalog.Insert(less, r); !slices.Equal(back, l) || err != api.OK {
				t.Errorf("Insert(%+v, %+v) = %+v, %d", less, r, back, err)
			}
		}
	}
}
