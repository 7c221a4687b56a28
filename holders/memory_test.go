package holders_test

import (
	"slices"
	"testing"

	"clusterlocks/api"
	"clusterlocks/holders"
)

// roomy returns a copy of l behind which lie grants of all processes.
func roomy(l []api.Hold) []api.Hold {
	return slices.Concat(l, grants(slices.Repeat([]api.Amount{m(api.X)}, len(procs))...))[:len(l)]
}

// R2: arguments are not changed, and what lies behind their length is neither changed nor read.
func TestArgumentsStayAsTheyAre(t *testing.T) {
	for _, r := range []api.Resource{lock, pool(3)} {
		for _, l := range append(lists(r, 3), oddLists(300)...) {
			room, was := roomy(l), roomy(l)
			for _, p := range procs[:5] {
				for _, a := range []api.Amount{{}, m(api.S), u(2)} {
					same := holders.Valid(r, room) == holders.Valid(r, l) && holders.Get(room, p) == holders.Get(l, p) && holders.Room(r, room, p, a) == holders.Room(r, l, p, a)
					same = same && slices.Equal(holders.Procs(room), holders.Procs(l)) && slices.Equal(holders.Set(room, p, a), holders.Set(l, p, a)) && slices.Equal(holders.Against(r, room, p, a), holders.Against(r, l, p, a))
					if !same {
						t.Errorf("what lies behind %v matters for %v and %v", l, p, a)
					}
				}
			}
			if !slices.Equal(room[:cap(was)], was[:cap(was)]) {
				t.Errorf("%v was changed to %v", was[:cap(was)], room[:cap(was)])
			}
		}
	}
}

// spoil changes all elements of l, and those behind its length.
func spoil[T any](l []T, with T) {
	for i := range l[:cap(l)] {
		l[:cap(l)][i] = with
	}
}

// R2: results share no memory with arguments or with other results.
func TestResultsAreNew(t *testing.T) {
	for _, l := range append(lists(lock, 3), oddLists(300)...) {
		room, was := roomy(l), roomy(l)
		for _, p := range append(slices.Clone(procs[:4]), api.Proc{}) {
			for _, a := range []api.Amount{{}, m(api.IS), m(api.X)} {
				set, against, all := holders.Set(room, p, a), holders.Against(lock, room, p, a), holders.Procs(room)
				spoil(holders.Set(room, p, a), api.Hold{Amount: u(77)})
				spoil(holders.Against(lock, room, p, a), api.Proc{Num: -7})
				spoil(holders.Procs(room), api.Proc{Num: -7})
				if !slices.Equal(set, holders.Set(l, p, a)) || !slices.Equal(against, holders.Against(lock, l, p, a)) || !slices.Equal(all, holders.Procs(l)) {
					t.Errorf("results for %v, %v and %v are not apart", l, p, a)
				}
			}
		}
		if !slices.Equal(room[:cap(was)], was[:cap(was)]) {
			t.Errorf("a result shares memory with %v", was)
		}
	}
}

// R2: a nil list and an empty one are equivalent.
func TestNilAndEmpty(t *testing.T) {
	one := grants(m(0), m(api.X))
	for _, none := range [][]api.Hold{nil, {}, make([]api.Hold, 0, 9)} {
		if !holders.Valid(lock, none) || !holders.Valid(pool(8), none) || holders.Get(none, procs[1]) != m(0) || len(holders.Procs(none)) != 0 {
			t.Error("Valid, Get and Procs of an empty list")
		}
		wantSet(t, none, procs[1], m(api.X), one)
		wantSet(t, none, procs[1], m(0), nil)
		wantRoom(t, lock, none, procs[1], m(api.X), true)
		wantRoom(t, pool(3), none, procs[1], u(3), true)
		wantRoom(t, pool(3), none, procs[1], u(4), false)
	}
}
