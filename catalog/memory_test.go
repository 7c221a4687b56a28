package catalog_test

import (
	"slices"
	"testing"

	"clusterlocks/api"
	"clusterlocks/catalog"
)

// calls are those that return a part or a change of their list; they succeed for the list of TestResultsAreCopies.
var calls = map[string]func([]api.Resource) []api.Resource{
	"Insert ahead":   func(l []api.Resource) []api.Resource { out, _ := catalog.Insert(l, lock("a", 0)); return out },
	"Insert between": func(l []api.Resource) []api.Resource { out, _ := catalog.Insert(l, lock("c", 0)); return out },
	"Insert behind":  func(l []api.Resource) []api.Resource { out, _ := catalog.Insert(l, lock("z", 0)); return out },
	"Remove first":   func(l []api.Resource) []api.Resource { out, _ := catalog.Remove(l, "b"); return out },
	"Remove second":  func(l []api.Resource) []api.Resource { out, _ := catalog.Remove(l, "d"); return out },
	"Remove last":    func(l []api.Resource) []api.Resource { out, _ := catalog.Remove(l, "f"); return out },
	"At 0":           func(l []api.Resource) []api.Resource { return catalog.At(l, 0) },
	"At 1":           func(l []api.Resource) []api.Resource { return catalog.At(l, 1) },
	"Parse":          func(l []api.Resource) []api.Resource { out, _ := catalog.Parse(catalog.Format(l)); return out },
}

// R2: arguments are not changed, also behind their length, and results share no memory.
func TestResultsAreCopies(t *testing.T) {
	for what, call := range calls {
		for _, list := range [][]api.Resource{
			{lock("b", 0), pool("d", 2, 1), lock("f", 0)},
			{lock("b", 0), lock("d", 0), lock("f", 0)},
			{lock("b", 1), lock("d", 1), lock("f", 1)},
		} {
			room := append(slices.Clone(list), lock("h", 0), lock("j", 1), lock("l", 2))
			was := slices.Clone(room)
			first, second := call(room[:3]), call(room[:3])
			want := slices.Clone(first)
			for i := range second {
				second[i] = api.Resource{Name: "changed"}
			}
			second = append(second, api.Resource{Name: "added"})
			if !slices.Equal(room, was) {
				t.Errorf("%s changed its argument: %+v, was %+v", what, room, was)
			}
			clear(room)
			if !slices.Equal(first, want) {
				t.Errorf("%s: results share memory: %+v, was %+v", what, first, want)
			}
		}
	}
}

// R2: what lies behind the length of a list is not read.
func TestCapacityIsNotRead(t *testing.T) {
	l := append(locks("b", "d"), lock("c", 0), lock("a", 0), lock("?", 9))[:2]
	if !catalog.Valid(l) || catalog.Format(l) != "lock b at 0\nlock d at 1\n" || len(catalog.At(l, 0)) != 1 {
		t.Error("Valid, Format or At")
	}
	if got, ok := catalog.Find(l, "c"); ok || got != (api.Resource{}) {
		t.Errorf("Find = %+v, %t", got, ok)
	}
	if got, err := catalog.Insert(l, lock("c", 2)); !slices.Equal(got, []api.Resource{l[0], lock("c", 2), l[1]}) || err != api.OK {
		t.Errorf("Insert = %+v, %d", got, err)
	}
	if got, err := catalog.Remove(l, "c"); len(got) != 0 || err != api.ErrUnknown {
		t.Errorf("Remove = %+v, %d", got, err)
	}
	if got := catalog.Resolve(l, atom("c", api.X, 0)); got != api.ErrUnknown {
		t.Errorf("Resolve = %d", got)
	}
}

// R2: calls that return an error or read only leave the list as it is.
func TestReadingChangesNothing(t *testing.T) {
	for _, l := range append(invalidCatalogs(), validCatalogs()...) {
		was := slices.Clone(l)
		catalog.Valid(l)
		catalog.Find(l, "b")
		catalog.Insert(l, lock("b", 0))
		catalog.Insert(l, lock("", 0))
		catalog.Remove(l, "x")
		catalog.Resolve(l, atom("b", api.X, 0))
		catalog.At(l, 0)
		catalog.Format(l)
		if !slices.Equal(l, was) {
			t.Errorf("the list was changed: %+v, was %+v", l, was)
		}
	}
}

// R2: a nil list and an empty one are equivalent.
func TestNilAndEmpty(t *testing.T) {
	for _, l := range [][]api.Resource{nil, {}, make([]api.Resource, 0, 5)} {
		if !catalog.Valid(l) || catalog.Format(l) != "" || len(catalog.At(l, 0)) != 0 {
			t.Error("Valid, Format or At")
		}
		if got, err := catalog.Insert(l, lock("a", 0)); !slices.Equal(got, locks("a")) || err != api.OK {
			t.Errorf("Insert = %+v, %d", got, err)
		}
		if got, err := catalog.Remove(l, "a"); len(got) != 0 || err != api.ErrUnknown {
			t.Errorf("Remove = %+v, %d", got, err)
		}
		if got := catalog.Resolve(l, atom("a", api.X, 0)); got != api.ErrUnknown {
			t.Errorf("Resolve = %d", got)
		}
	}
}
