package holders_test

import (
	"math"
	"slices"
	"testing"

	"clusterlocks/api"
	"clusterlocks/holders"
)

// numbers are ordinary numbers, those at the limits, and numbers that would be in range if they were cut to fewer bits.
var numbers = []int{
	-9, -3, -1, 0, 1, 2, 3, 4, 5, 6, 8, 9, 10, 98, 99, 100, 999, 1000,
	1<<8 + 1, -1<<8 + 3, 1<<16 + 2, 1<<32 + 1, -1<<32 + 2, math.MinInt, math.MinInt + 1, math.MaxInt,
}

// lock is the lock of the chapter's examples.
var lock = api.Resource{Name: "a", Kind: api.Lock, Units: 1}

// pool returns a pool of n units.
func pool(n int) api.Resource {
	return api.Resource{Name: "p", Kind: api.Pool, Units: n}
}

// m returns the amount with this mode and no units.
func m(mode int) api.Amount {
	return api.Amount{Mode: mode}
}

// u returns the amount of this number of units without a mode.
func u(units int) api.Amount {
	return api.Amount{Units: units}
}

// procs are valid processes in ascending order, which is neither that of the sums of their numbers nor that of their texts.
var procs = []api.Proc{
	{Site: 0, Inc: 1, Num: 1}, {Site: 0, Inc: 1, Num: 2}, {Site: 0, Inc: 1, Num: 10}, {Site: 0, Inc: 2, Num: 1}, {Site: 0, Inc: 10, Num: 999},
	{Site: 1, Inc: 1, Num: 1}, {Site: 1, Inc: 1, Num: 2}, {Site: 2, Inc: 99, Num: 1}, {Site: 3, Inc: 1, Num: 7}, {Site: 3, Inc: 99, Num: 999},
}

// noProcs are processes that are not valid, each because of one number but for the first.
var noProcs = []api.Proc{
	{}, {Site: -1, Inc: 1, Num: 1}, {Site: 4, Inc: 1, Num: 1}, {Inc: 0, Num: 1}, {Inc: -1, Num: 1}, {Inc: 100, Num: 1}, {Inc: 1, Num: 0}, {Inc: 1, Num: -1}, {Inc: 1, Num: 1000},
	{Site: math.MinInt, Inc: 1, Num: 1}, {Site: 1, Inc: math.MaxInt, Num: 1}, {Site: 1, Inc: 1, Num: math.MaxInt}, {Site: 1 << 32, Inc: 1, Num: 1},
}

// grants returns a list in which the first processes hold these amounts, but for those that hold nothing.
func grants(amounts ...api.Amount) []api.Hold {
	var l []api.Hold
	for i, a := range amounts {
		if a != (api.Amount{}) {
			l = append(l, api.Hold{Proc: procs[i], Amount: a})
		}
	}
	return l
}

// fitting returns all amounts that fit r.
func fitting(r api.Resource) []api.Amount {
	if r.Kind == api.Lock {
		return []api.Amount{m(api.IS), m(api.IX), m(api.S), m(api.SIX), m(api.X)}
	}
	return []api.Amount{u(1), u(2), u(3), u(4), u(5), u(6), u(7), u(8)}[:r.Units]
}

// unfit returns amounts that do not fit r, the zero amount first.
func unfit(r api.Resource) []api.Amount {
	out := []api.Amount{{}}
	for _, mode := range numbers {
		for _, units := range numbers {
			if a := (api.Amount{Mode: mode, Units: units}); a != out[0] && !slices.Contains(fitting(r), a) {
				out = append(out, a)
			}
		}
	}
	return out
}

// unshaped are resources that are not shaped.
var unshaped = []api.Resource{
	{}, {Name: "a", Units: 1}, {Name: "a", Kind: 3, Units: 1}, {Name: "a", Kind: -1, Units: 1}, {Name: "a", Kind: api.Lock}, {Name: "a", Kind: api.Lock, Units: 2}, {Name: "a", Kind: api.Lock, Units: -1},
	pool(0), pool(9), pool(-1), pool(math.MinInt), pool(math.MaxInt), pool(1<<32 + 3),
}

// lists returns the lists in which each of the first n processes holds nothing or an amount that fits r, compatible or not.
func lists(r api.Resource, n int) [][]api.Hold {
	rows := [][]api.Amount{nil}
	for range n {
		var longer [][]api.Amount
		for _, row := range rows {
			for _, a := range append(fitting(r), api.Amount{}) {
				longer = append(longer, append(slices.Clone(row), a))
			}
		}
		rows = longer
	}
	var out [][]api.Hold
	for _, row := range rows {
		out = append(out, grants(row...))
	}
	return out
}

// friends are the pairs of modes that are compatible, the lesser number first.
var friends = [][2]int{{api.IS, api.IS}, {api.IS, api.IX}, {api.IS, api.S}, {api.IS, api.SIX}, {api.IX, api.IX}, {api.S, api.S}}

// apart says whether two processes may not hold these modes at the same time.
func apart(a, b int) bool {
	return !slices.Contains(friends, [2]int{min(a, b), max(a, b)})
}

// clash says whether the amounts of l, which fit r, are not compatible.
func clash(r api.Resource, l []api.Hold) bool {
	sum := 0
	for i, h := range l {
		sum += h.Amount.Units
		for _, g := range l[:i] {
			if r.Kind == api.Lock && apart(g.Amount.Mode, h.Amount.Mode) {
				return true
			}
		}
	}
	return r.Kind == api.Pool && sum > r.Units
}

// samples are resources of both kinds.
var samples = []api.Resource{lock, pool(1), pool(3), pool(8)}

// P10.1: a list of few grants that ascend and fit is valid if they are compatible.
func TestValid(t *testing.T) {
	for _, r := range samples {
		for _, l := range lists(r, 3) {
			if got := holders.Valid(r, l); got == clash(r, l) {
				t.Errorf("Valid(%+v, %v) = %t", r, l, got)
			}
		}
	}
}

// P10.1: the name and the home of the resource do not matter.
func TestValidOtherFields(t *testing.T) {
	for _, home := range numbers {
		a := api.Resource{Name: "\xff ", Kind: api.Lock, Units: 1, Home: home}
		p := api.Resource{Kind: api.Pool, Units: 3, Home: home}
		if !holders.Valid(a, nil) || !holders.Valid(a, grants(m(api.IX), m(api.IX))) || holders.Valid(a, grants(m(api.IX), m(api.S))) {
			t.Errorf("a lock at %d", home)
		}
		if !holders.Valid(p, nil) || !holders.Valid(p, grants(u(1), u(2))) || holders.Valid(p, grants(u(2), u(2))) {
			t.Errorf("a pool at %d", home)
		}
	}
}

// P10.1: MaxProcs grants may be valid, more may not, though they are compatible.
func TestValidLength(t *testing.T) {
	for _, a := range []api.Amount{m(api.IS), m(api.IX), m(api.S)} {
		for n := range procs {
			l := grants(slices.Repeat([]api.Amount{a}, n+1)...)
			if got := holders.Valid(lock, l); got != (n+1 <= 8) {
				t.Errorf("Valid of %d grants = %t", n+1, got)
			}
		}
	}
	if !holders.Valid(pool(8), grants(slices.Repeat([]api.Amount{u(1)}, 8)...)) {
		t.Error("eight units for eight processes")
	}
	if holders.Valid(lock, make([]api.Hold, 1<<20)) || holders.Valid(lock, slices.Repeat(grants(m(api.IS)), 1<<20)) {
		t.Error("a great many grants")
	}
}

// P10.1: processes must ascend strictly, at every place.
func TestValidOrder(t *testing.T) {
	for i, p := range procs {
		for j, q := range procs {
			l := []api.Hold{{Proc: p, Amount: m(api.S)}, {Proc: q, Amount: m(api.S)}}
			if got := holders.Valid(lock, l); got != (i < j) {
				t.Errorf("Valid of %v and %v = %t", p, q, got)
			}
		}
	}
	for i := range 8 {
		for j := range i {
			l := grants(slices.Repeat([]api.Amount{u(1)}, 8)...)
			l[i].Proc, l[j].Proc = l[j].Proc, l[i].Proc
			if holders.Valid(pool(8), l) {
				t.Errorf("Valid with %d and %d exchanged", i, j)
			}
			l[i].Proc = l[j].Proc
			if holders.Valid(pool(8), l) {
				t.Errorf("Valid with one process at %d and %d", i, j)
			}
		}
	}
}

// P10.1: a process that is not valid makes the list invalid, where it stands in order, too.
func TestValidProcs(t *testing.T) {
	for _, p := range noProcs {
		one := api.Hold{Proc: p, Amount: m(api.IS)}
		for _, l := range [][]api.Hold{{one}, append(grants(m(api.IS)), one), append([]api.Hold{one}, grants(m(0), m(api.IS))...)} {
			if holders.Valid(lock, l) {
				t.Errorf("Valid(%v) = true", l)
			}
		}
	}
}

// P10.1: an amount that does not fit makes the list invalid, the zero amount, too.
func TestValidAmounts(t *testing.T) {
	for _, r := range samples {
		for _, bad := range unfit(r) {
			least := fitting(r)[0]
			one := []api.Hold{{Proc: procs[1], Amount: bad}}
			for _, l := range [][]api.Hold{one, append(grants(least), one...), append(one, api.Hold{Proc: procs[2], Amount: least})} {
				if holders.Valid(r, l) {
					t.Errorf("Valid(%+v, %v) = true", r, l)
				}
			}
		}
	}
	if holders.Valid(pool(3), grants(u(3), u(-1), u(1))) || holders.Valid(pool(3), grants(u(math.MaxInt), u(math.MaxInt), u(2))) {
		t.Error("units that do not fit make up for each other")
	}
}

// P10.1: no list is valid for a resource that is not shaped, the empty one neither.
func TestValidUnshaped(t *testing.T) {
	for _, r := range unshaped {
		for _, l := range [][]api.Hold{nil, {}, grants(m(api.IS)), grants(u(1)), grants(u(1), u(1))} {
			if holders.Valid(r, l) {
				t.Errorf("Valid(%+v, %v) = true", r, l)
			}
		}
	}
}
