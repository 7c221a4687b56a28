package line_test

import (
	"math/rand"
	"slices"
	"testing"

	"clusterlocks/api"
	"clusterlocks/line"
)

// wantInsert checks one call of Insert that is not refused.
func wantInsert(t *testing.T, l []api.Wait, w api.Wait, want []api.Wait, at int) {
	t.Helper()
	got, index, err := line.Insert(l, w)
	if err != api.OK || index != at || !slices.Equal(got, want) {
		t.Errorf("Insert(%v, %v) = %v, %d, %d, want %v, %d", l, w, got, index, err, want, at)
	}
}

// P11.2: the chapter's examples.
func TestExamplesOfInsert(t *testing.T) {
	l := []api.Wait{wait(0, 2, 0), wait(1, 0, 0), wait(2, 0, 0)}
	wantInsert(t, l, wait(3, 1, 0), []api.Wait{wait(0, 2, 0), wait(3, 1, 0), wait(1, 0, 1), wait(2, 0, 1)}, 1)
	wantInsert(t, l, wait(3, 0, 0), []api.Wait{wait(0, 2, 0), wait(1, 0, 0), wait(2, 0, 0), wait(3, 0, 0)}, 3)
}

// P11.2: a claim of higher priority stops behind an element that was overtaken MaxPass times, though there are elements that it could pass in front of that.
func TestInsertBehindPassed(t *testing.T) {
	l := []api.Wait{wait(0, 0, 0), wait(1, 0, 3), wait(2, 1, 2), wait(3, 0, 0)}
	wantInsert(t, l, wait(4, 7, 0), []api.Wait{wait(0, 0, 0), wait(1, 0, 3), wait(4, 7, 0), wait(2, 1, 3), wait(3, 0, 1)}, 2)
	wantInsert(t, l, wait(4, 1, 0), []api.Wait{wait(0, 0, 0), wait(1, 0, 3), wait(2, 1, 2), wait(4, 1, 0), wait(3, 0, 1)}, 3)
	last := []api.Wait{wait(0, 0, 0), wait(1, 6, 3)}
	wantInsert(t, last, wait(4, 7, 0), append(last, wait(4, 7, 0)), 2)
}

// insert says what Insert returns: the place of w is behind the last element that w does not pass.
func insert(l []api.Wait, w api.Wait) ([]api.Wait, int) {
	at := 0
	for i, e := range l {
		if e.Priority >= w.Priority || e.Passed == 3 {
			at = i + 1
		}
	}
	out := append(slices.Clone(l[:at]), w)
	for _, e := range l[at:] {
		e.Passed++
		out = append(out, e)
	}
	return out, at
}

// lines returns the lines of n claims with all combinations of these priorities and 0 to 3 overtakings.
func lines(n int, priorities ...int) [][]api.Wait {
	out := [][]api.Wait{nil}
	for i := range n {
		var longer [][]api.Wait
		for _, l := range out {
			for _, priority := range priorities {
				for passed := range 4 {
					longer = append(longer, append(slices.Clone(l), wait(i, priority, passed)))
				}
			}
		}
		out = longer
	}
	return out
}

// P11.2: into each line of up to two claims, and into each of up to four in which fewer priorities occur.
func TestInsertIntoShortLines(t *testing.T) {
	all := slices.Concat(lines(0), lines(1, 0, 1, 2, 3, 4, 5, 6, 7), lines(2, 0, 1, 2, 3, 4, 5, 6, 7), lines(3, 0, 3, 6, 7), lines(4, 0, 4))
	for _, l := range all {
		for priority := range 8 {
			w := wait(9, priority, 0)
			want, at := insert(l, w)
			wantInsert(t, l, w, want, at)
		}
	}
}

// P11.2: into lines of up to seven claims, which become lines of up to eight.
func TestInsertIntoLongLines(t *testing.T) {
	rng := rand.New(rand.NewSource(11))
	for range 20000 {
		var l []api.Wait
		most := 1 + rng.Intn(8)
		for _, i := range rng.Perm(9)[:rng.Intn(8)] {
			l = append(l, wait(i, rng.Intn(most), rng.Intn(40)/12))
		}
		w := wait(9, rng.Intn(8), 0)
		want, at := insert(l, w)
		wantInsert(t, l, w, want, at)
	}
}

// P11.2: processes and amounts do not matter for the place, and all fields of the claims stay as they are but for Passed of those that are overtaken.
func TestInsertKeepsFields(t *testing.T) {
	for i, p := range procs {
		for j, q := range procs {
			if i == j {
				continue
			}
			for k, a := range amounts {
				first := api.Wait{Proc: p, Amount: a, Priority: 3, Passed: 1}
				second := api.Wait{Proc: q, Amount: amounts[(k+i)%len(amounts)], Priority: 5}
				passed := first
				passed.Passed = 2
				wantInsert(t, []api.Wait{first}, second, []api.Wait{second, passed}, 0)
				second.Priority = 3
				wantInsert(t, []api.Wait{first}, second, []api.Wait{first, second}, 1)
			}
		}
	}
}

// wantRefused checks one call of Insert that is refused.
func wantRefused(t *testing.T, l []api.Wait, w api.Wait, want api.Errno) {
	t.Helper()
	if got, at, err := line.Insert(l, w); len(got) != 0 || at != 0 || err != want {
		t.Errorf("Insert(%v, %v) = %v, %d, %d, want %d", l, w, got, at, err, want)
	}
}

// badLines returns lists that are no lines: with a claim that is not valid, with one process twice, or too long.
func badLines() [][]api.Wait {
	out := [][]api.Wait{claims(9), claims(10), {wait(1, 0, 0), wait(2, 0, 0), wait(1, 5, 1)}, append(claims(7), wait(3, 0, 0)), append(claims(8), wait(3, 0, 0)), append(claims(8), api.Wait{})}
	for _, bad := range badWaits() {
		out = append(out, []api.Wait{bad}, []api.Wait{wait(1, 0, 0), bad, wait(2, 0, 0)})
	}
	return out
}

// P11.2: ErrInvalid for what is no line, whatever else is wrong.
func TestInsertIntoInvalid(t *testing.T) {
	for _, l := range badLines() {
		for _, w := range []api.Wait{wait(8, 0, 0), wait(9, 7, 0), wait(1, 0, 0), wait(9, 0, 1), wait(1, 8, 3), {}} {
			wantRefused(t, l, w, api.ErrInvalid)
		}
	}
	wantRefused(t, slices.Repeat(claims(8), 1<<14), wait(9, 0, 0), api.ErrInvalid)
}

// P11.2: ErrArg for a claim that is not valid or has been overtaken, also where its process stands in the line or the line is full.
func TestInsertOfInvalid(t *testing.T) {
	for _, l := range [][]api.Wait{nil, claims(1), claims(3), claims(8)} {
		for _, w := range badWaits() {
			wantRefused(t, l, w, api.ErrArg)
		}
		for passed := 1; passed <= 3; passed++ {
			for priority := range 8 {
				wantRefused(t, l, wait(0, priority, passed), api.ErrArg)
				wantRefused(t, l, wait(9, priority, passed), api.ErrArg)
			}
		}
	}
}

// P11.2: ErrExists for a process that stands in the line, wherever it does, also in a full line.
func TestInsertTwice(t *testing.T) {
	for n := 1; n <= 8; n++ {
		for i := range n {
			for priority := range 8 {
				wantRefused(t, claims(n), wait(i, priority, 0), api.ErrExists)
			}
			wantRefused(t, claims(n), api.Wait{Proc: procs[i], Amount: amounts[9]}, api.ErrExists)
		}
	}
}

// P11.2: ErrTooMany for a ninth claim.
func TestInsertIntoFull(t *testing.T) {
	for priority := range 8 {
		for _, i := range []int{8, 9} {
			wantRefused(t, claims(8), wait(i, priority, 0), api.ErrTooMany)
			w := wait(i, priority, 0)
			want, at := insert(claims(7), w)
			wantInsert(t, claims(7), w, want, at)
		}
	}
}
