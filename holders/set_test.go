package holders_test

import (
	"math"
	"math/rand"
	"slices"
	"testing"

	"clusterlocks/api"
	"clusterlocks/holders"
)

// oddAmounts are amounts of all sorts, those that fit nothing, too, but not the zero amount.
var oddAmounts = []api.Amount{m(api.IS), m(api.X), u(1), u(8), m(6), m(-1), u(9), u(-1), {Mode: 1, Units: 1}, {Mode: 1, Units: -1}, m(math.MinInt), u(math.MaxInt)}

// oddLists returns lists in any order, with processes that are there several times, processes that are not valid, and amounts of all sorts.
func oddLists(count int) [][]api.Hold {
	rng := rand.New(rand.NewSource(10))
	all := append(slices.Clone(procs[:5]), noProcs...)
	var out [][]api.Hold
	for range count {
		some := 1 + rng.Intn(len(all))
		l := make([]api.Hold, rng.Intn(12))
		for i := range l {
			l[i].Proc = all[rng.Intn(some)]
			if rng.Intn(5) > 0 {
				l[i].Amount = oddAmounts[rng.Intn(len(oddAmounts))]
			}
		}
		out = append(out, l)
	}
	return out
}

// P10.1: Get returns what the first element with the process holds, whatever the list is.
func TestGet(t *testing.T) {
	for _, l := range oddLists(2000) {
		for _, p := range append(slices.Clone(procs), noProcs...) {
			var want api.Amount
			for i := len(l) - 1; i >= 0; i-- {
				if l[i].Proc == p {
					want = l[i].Amount
				}
			}
			if got := holders.Get(l, p); got != want {
				t.Errorf("Get(%v, %v) = %v, want %v", l, p, got, want)
			}
		}
	}
}

// P10.1: Get looks at all three numbers of a process, and finds nothing in an empty list.
func TestGetOther(t *testing.T) {
	l := []api.Hold{{Proc: api.Proc{Site: 1, Inc: 2, Num: 3}, Amount: m(api.S)}}
	for _, p := range []api.Proc{{Site: 2, Inc: 2, Num: 3}, {Site: 1, Inc: 3, Num: 3}, {Site: 1, Inc: 2, Num: 4}, {Site: 3, Inc: 2, Num: 1}, {}} {
		if got := holders.Get(l, p); got != m(0) {
			t.Errorf("Get(%v) = %v", p, got)
		}
	}
	if holders.Get(l, l[0].Proc) != m(api.S) || holders.Get(nil, l[0].Proc) != m(0) {
		t.Error("Get of the process itself, and from no list")
	}
}

// P10.1: Procs returns the processes of all elements in their order, whatever the list is.
func TestProcs(t *testing.T) {
	for _, l := range append(oddLists(500), nil, grants(m(1), m(1), m(1))) {
		got := holders.Procs(l)
		if len(got) != len(l) {
			t.Errorf("Procs(%v) = %v", l, got)
			continue
		}
		for i, h := range l {
			if got[i] != h.Proc {
				t.Errorf("Procs(%v) = %v", l, got)
			}
		}
	}
}

// wantSet checks one call of Set.
func wantSet(t *testing.T, l []api.Hold, p api.Proc, a api.Amount, want []api.Hold) {
	t.Helper()
	if got := holders.Set(l, p, a); !slices.Equal(got, want) {
		t.Errorf("Set(%v, %v, %v) = %v, want %v", l, p, a, got, want)
	}
}

// P10.2: in a list that ascends, Set puts a process into its place, whether it is there or not, or takes it away.
func TestSetAscending(t *testing.T) {
	for _, r := range []api.Resource{lock, pool(3)} {
		for _, l := range lists(r, 4) {
			var was [5]api.Amount
			for i := range was {
				was[i] = holders.Get(l, procs[i])
			}
			for i := range was {
				for _, a := range append(fitting(r), api.Amount{}, m(9)) {
					now := was
					now[i] = a
					wantSet(t, l, procs[i], a, grants(now[:]...))
				}
			}
		}
	}
}

// set says what Set returns: in front of each element that is left there is p, if it is greater and nothing was there yet.
func set(l []api.Hold, p api.Proc, a api.Amount) []api.Hold {
	var out []api.Hold
	done := a == api.Amount{}
	for _, h := range append(slices.Clone(l), api.Hold{Proc: api.Proc{Site: math.MaxInt, Inc: math.MaxInt, Num: math.MaxInt}}) {
		if !done && (h.Proc.Site > p.Site || h.Proc.Site == p.Site && (h.Proc.Inc > p.Inc || h.Proc.Inc == p.Inc && h.Proc.Num > p.Num)) {
			out = append(out, api.Hold{Proc: p, Amount: a})
			done = true
		}
		if h.Proc != p {
			out = append(out, h)
		}
	}
	return out[:len(out)-1]
}

// P10.2: in any list, Set takes away all elements with the process, and inserts in front of the first one that is greater.
func TestSetAnyList(t *testing.T) {
	for _, l := range oddLists(2000) {
		for _, p := range append(slices.Clone(procs), noProcs...) {
			for _, a := range []api.Amount{{}, m(api.S), u(2)} {
				wantSet(t, l, p, a, set(l, p, a))
			}
		}
	}
}

// P10.2: every amount that is not zero is inserted, also if it fits nothing.
func TestSetAnyAmount(t *testing.T) {
	l := grants(m(api.IX), m(0), m(api.IS))
	for _, a := range oddAmounts {
		wantSet(t, l, procs[1], a, grants(m(api.IX), a, m(api.IS)))
		wantSet(t, l, procs[2], a, grants(m(api.IX), m(0), a))
		wantSet(t, nil, api.Proc{}, a, []api.Hold{{Amount: a}})
	}
}

// P10.2: places in lists that do not ascend, and at all places of one that does.
func TestSetPlaces(t *testing.T) {
	a, b, c, d := grants(m(1))[0], grants(m(0), m(2))[0], grants(m(0), m(0), m(3))[0], grants(m(0), m(0), m(0), m(4))[0]
	table := []struct {
		l    []api.Hold
		h    api.Hold
		want []api.Hold
	}{
		{nil, a, []api.Hold{a}},
		{[]api.Hold{b, c, d}, a, []api.Hold{a, b, c, d}},
		{[]api.Hold{a, c, d}, b, []api.Hold{a, b, c, d}},
		{[]api.Hold{a, b, c}, d, []api.Hold{a, b, c, d}},
		{[]api.Hold{d, a, c}, b, []api.Hold{b, d, a, c}},
		{[]api.Hold{a, d, c, a}, b, []api.Hold{a, b, d, c, a}},
		{[]api.Hold{c, b, a}, d, []api.Hold{c, b, a, d}},
		{[]api.Hold{d, d, d}, d, []api.Hold{d}},
		{[]api.Hold{b, a, b, c, b}, b, []api.Hold{a, b, c}},
		{[]api.Hold{b, d, a, b}, b, []api.Hold{b, d, a}},
	}
	for _, x := range table {
		wantSet(t, x.l, x.h.Proc, x.h.Amount, x.want)
	}
	wantSet(t, []api.Hold{b, d, a, b}, b.Proc, m(0), []api.Hold{d, a})
	wantSet(t, []api.Hold{b, b}, b.Proc, m(0), nil)
	wantSet(t, nil, b.Proc, m(0), nil)
}

// P10.2: a list may be long.
func TestSetLong(t *testing.T) {
	h := grants(m(0), m(0), m(api.S))[0]
	long := slices.Repeat(grants(m(1), m(2)), 100000)
	wantSet(t, long, h.Proc, h.Amount, append(slices.Clone(long), h))
	wantSet(t, slices.Repeat([]api.Hold{h}, 100000), h.Proc, m(api.X), grants(m(0), m(0), m(api.X)))
}
