package holders_test

import (
	"slices"
	"testing"

	"clusterlocks/api"
	"clusterlocks/holders"
)

// wantRoom checks Room and Against of the same arguments.
func wantRoom(t *testing.T, r api.Resource, l []api.Hold, p api.Proc, a api.Amount, room bool, against ...api.Proc) {
	t.Helper()
	if got := holders.Room(r, l, p, a); got != room {
		t.Errorf("Room(%+v, %v, %v, %v) = %t", r, l, p, a, got)
	}
	if got := holders.Against(r, l, p, a); !slices.Equal(got, against) {
		t.Errorf("Against(%+v, %v, %v, %v) = %v, want %v", r, l, p, a, got, against)
	}
}

// P10.3, P10.4: the chapter's examples.
func TestExamples(t *testing.T) {
	l := grants(m(api.IX), m(api.IS))
	wantRoom(t, lock, l, procs[1], m(api.S), false, procs[0])
	wantRoom(t, lock, l, procs[1], m(api.IX), true)
}

// P10.3, P10.4: whoever else holds something of a lock keeps p from holding what is not compatible with it; what p holds does not matter.
func TestRoomOfLocks(t *testing.T) {
	for _, l := range lists(lock, 4) {
		if clash(lock, l) {
			continue
		}
		for _, p := range procs[:5] {
			for _, a := range fitting(lock) {
				var against []api.Proc
				for _, h := range l {
					if h.Proc != p && apart(h.Amount.Mode, a.Mode) {
						against = append(against, h.Proc)
					}
				}
				wantRoom(t, lock, l, p, a, len(against) == 0, against...)
			}
		}
	}
}

// P10.3, P10.4: whoever else holds units of a pool keeps p from holding more than they leave.
func TestRoomOfPools(t *testing.T) {
	for _, n := range []int{1, 2, 3, 5, 8} {
		for _, l := range lists(pool(n), 3) {
			if clash(pool(n), l) {
				continue
			}
			for _, p := range procs[:4] {
				wantUnits(t, n, l, p)
			}
		}
	}
}

// wantUnits checks Room and Against of p for each number of units of a pool of n, of which l is a valid list.
func wantUnits(t *testing.T, n int, l []api.Hold, p api.Proc) {
	t.Helper()
	var others []api.Proc
	left := n
	for _, h := range l {
		if h.Proc != p {
			others = append(others, h.Proc)
			left -= h.Amount.Units
		}
	}
	for units := 1; units <= n; units++ {
		if units <= left {
			wantRoom(t, pool(n), l, p, u(units), true)
		} else {
			wantRoom(t, pool(n), l, p, u(units), false, others...)
		}
	}
}

// P10.3: Room is true exactly if all arguments are in order and Set gives a valid list.
func TestRoomIsValidSet(t *testing.T) {
	for _, r := range samples {
		for _, l := range append(lists(r, 2), oddLists(200)...) {
			for _, p := range append(slices.Clone(procs[:4]), noProcs...) {
				for _, a := range append(fitting(r), unfit(r)[:20]...) {
					want := holders.Valid(r, l) && slices.Contains(procs, p) && slices.Contains(fitting(r), a) && holders.Valid(r, holders.Set(l, p, a))
					if got := holders.Room(r, l, p, a); got != want {
						t.Errorf("Room(%+v, %v, %v, %v) = %t", r, l, p, a, got)
					}
				}
			}
		}
	}
}

// P10.3, P10.4: beside MaxProcs grants there is room for nobody else, though nobody may be against it.
func TestRoomBesideEight(t *testing.T) {
	shared := grants(slices.Repeat([]api.Amount{m(api.IS)}, 8)...)
	for _, a := range []api.Amount{m(api.IS), m(api.IX), m(api.S), m(api.SIX)} {
		wantRoom(t, lock, shared, procs[8], a, false)
		wantRoom(t, lock, shared[1:], procs[0], a, true)
		for _, p := range procs[:8] {
			wantRoom(t, lock, shared, p, a, true)
		}
	}
	wantRoom(t, lock, shared, procs[8], m(api.X), false, procs[:8]...)
	wantRoom(t, lock, shared, procs[3], m(api.X), false, append(slices.Clone(procs[:3]), procs[4:8]...)...)
	mixed := slices.Clone(shared)
	mixed[2].Amount, mixed[7].Amount = m(api.S), m(api.S)
	wantRoom(t, lock, mixed, procs[9], m(api.S), false)
	wantRoom(t, lock, mixed, procs[9], m(api.IX), false, procs[2], procs[7])
	wantRoom(t, lock, mixed, procs[7], m(api.IX), false, procs[2])
	units := grants(slices.Repeat([]api.Amount{u(1)}, 8)...)
	wantRoom(t, pool(8), units, procs[8], u(1), false, procs[:8]...)
	wantRoom(t, pool(8), units, procs[7], u(1), true)
	wantRoom(t, pool(8), units, procs[7], u(2), false, procs[:7]...)
	wantRoom(t, pool(8), units[:7], procs[8], u(1), true)
}

// P10.3, P10.4: without a valid list there is no room, and nobody is against it.
func TestRoomOfInvalidLists(t *testing.T) {
	s, x := api.Hold{Proc: procs[1], Amount: m(api.S)}, api.Hold{Proc: procs[2], Amount: m(api.X)}
	bad := [][]api.Hold{
		{x, s}, {s, s}, {s, x}, grants(m(api.S), u(1)), grants(m(api.S), m(6)), {{Proc: procs[1]}}, {{Amount: m(api.S)}}, {{Proc: procs[1], Amount: m(api.S)}, {Proc: api.Proc{Site: 4, Inc: 1, Num: 1}, Amount: m(api.S)}},
		grants(slices.Repeat([]api.Amount{m(api.S)}, 9)...), slices.Repeat([]api.Hold{s}, 100000),
	}
	for _, l := range bad {
		for _, p := range procs {
			for _, a := range fitting(lock) {
				wantRoom(t, lock, l, p, a, false)
			}
		}
	}
	for _, l := range [][]api.Hold{grants(u(2), u(2)), {{Proc: procs[1], Amount: u(1)}, {Proc: procs[0], Amount: u(1)}}, grants(u(3), u(-1), u(1)), grants(u(1), m(api.S)), {{Proc: procs[1]}}, grants(u(4))} {
		for _, p := range procs {
			for _, a := range fitting(pool(3)) {
				wantRoom(t, pool(3), l, p, a, false)
			}
		}
	}
}

// P10.3, P10.4: a process that is not valid has no room, and nobody is against it.
func TestRoomForInvalidProcs(t *testing.T) {
	for _, p := range noProcs {
		for _, l := range [][]api.Hold{nil, grants(m(api.IS)), grants(m(api.X))} {
			for _, a := range fitting(lock) {
				wantRoom(t, lock, l, p, a, false)
			}
		}
		for _, l := range [][]api.Hold{nil, grants(u(1)), grants(u(3))} {
			for _, a := range fitting(pool(3)) {
				wantRoom(t, pool(3), l, p, a, false)
			}
		}
	}
}

// P10.3, P10.4: there is no room for an amount that does not fit, the zero amount neither, and nobody is against it.
func TestRoomForUnfitAmounts(t *testing.T) {
	for _, r := range samples {
		for _, a := range unfit(r) {
			for _, l := range [][]api.Hold{nil, grants(fitting(r)[0]), grants(fitting(r)[len(fitting(r))-1])} {
				wantRoom(t, r, l, procs[0], a, false)
				wantRoom(t, r, l, procs[1], a, false)
			}
		}
	}
}

// P10.3, P10.4: of a resource that is not shaped there is no room, and nobody is against it.
func TestRoomOfUnshaped(t *testing.T) {
	for _, r := range unshaped {
		for _, l := range [][]api.Hold{nil, {}, grants(m(api.IS)), grants(u(1)), grants(u(8)), grants(m(api.X))} {
			for _, a := range []api.Amount{{}, m(api.IS), m(api.X), u(1), u(2)} {
				wantRoom(t, r, l, procs[0], a, false)
				wantRoom(t, r, l, procs[1], a, false)
			}
		}
	}
}
