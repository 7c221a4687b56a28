package line_test

import (
	"slices"
	"testing"

	"clusterlocks/api"
	"clusterlocks/line"
)

// roomy returns a copy of l behind which lie claims of all processes.
func roomy(l []api.Wait) []api.Wait {
	return slices.Concat(l, claims(len(procs)))[:len(l)]
}

// spoil changes all elements of l, and those behind its length.
func spoil[T any](l []T, with T) {
	for i := range l[:cap(l)] {
		l[:cap(l)][i] = with
	}
}

// outcome is what the calls that return a list return together.
type outcome struct {
	inserted, left []api.Wait
	ahead          []api.Proc
	at             int
	err            api.Errno
	ok             bool
}

// all calls the functions that return a list.
func all(l []api.Wait, w api.Wait) outcome {
	var o outcome
	o.inserted, o.at, o.err = line.Insert(l, w)
	o.left, o.ok = line.Remove(l, w.Proc)
	o.ahead = line.Ahead(l, w.Proc)
	return o
}

// alike says whether two outcomes are equal.
func alike(a, b outcome) bool {
	return slices.Equal(a.inserted, b.inserted) && slices.Equal(a.left, b.left) && slices.Equal(a.ahead, b.ahead) && a.at == b.at && a.err == b.err && a.ok == b.ok
}

// someLists returns lines and other lists.
func someLists() [][]api.Wait {
	out := slices.Concat(oddLines(300), lines(2, 0, 5, 7))
	for n := range 10 {
		out = append(out, claims(n))
	}
	return out
}

// R2: arguments are not changed, and what lies behind their length is neither changed nor read.
func TestArgumentsStayAsTheyAre(t *testing.T) {
	for _, l := range someLists() {
		room, was := roomy(l), roomy(l)
		for i := range procs {
			for _, priority := range []int{0, 3, 7, 8} {
				w := wait(i, priority, 0)
				if !alike(all(room, w), all(l, w)) || line.Valid(room) != line.Valid(l) || line.Find(room, w.Proc) != line.Find(l, w.Proc) {
					t.Errorf("what lies behind %v matters for %v", l, w)
				}
			}
		}
		if !slices.Equal(room[:cap(was)], was[:cap(was)]) {
			t.Errorf("%v was changed to %v", was[:cap(was)], room[:cap(was)])
		}
	}
}

// R2: results share no memory with arguments or with other results.
func TestResultsAreNew(t *testing.T) {
	for _, l := range someLists() {
		room, was := roomy(l), roomy(l)
		for i := range procs {
			for _, priority := range []int{0, 7} {
				w := wait(i, priority, 0)
				kept, other := all(room, w), all(room, w)
				spoil(other.inserted, api.Wait{Passed: 77})
				spoil(other.left, api.Wait{Passed: 77})
				spoil(other.ahead, api.Proc{Num: -7})
				if !alike(kept, all(l, w)) {
					t.Errorf("results for %v and %v are not apart", l, w)
				}
			}
		}
		if !slices.Equal(room[:cap(was)], was[:cap(was)]) {
			t.Errorf("a result shares memory with %v", was)
		}
	}
}

// R2: a nil list and an empty one are equivalent.
func TestNilAndEmpty(t *testing.T) {
	for _, none := range [][]api.Wait{nil, {}, make([]api.Wait, 0, 9)} {
		if !line.Valid(none) {
			t.Error("Valid of an empty line = false")
		}
		wantOf(t, none, procs[0], -1, nil, nil)
		wantOf(t, none, api.Proc{}, -1, nil, nil)
		wantInsert(t, none, wait(0, 7, 0), []api.Wait{wait(0, 7, 0)}, 0)
		wantRefused(t, none, wait(0, 0, 1), api.ErrArg)
	}
}
