package amount_test

import (
	"math"
	"slices"
	"testing"

	"clusterlocks/amount"
	"clusterlocks/api"
)

// numbers are ordinary numbers, those at the limits, and numbers that would be in range if they were cut to fewer bits.
var numbers = []int{
	-9, -8, -3, -2, -1, 0, 1, 2, 3, 4, 5, 6, 7, 8, 9, 10, 16, 99,
	1<<8 + 1, -1<<8 + 3, 1<<16 + 2, 1 << 32, 1<<32 + 1, 1<<32 + 8, -1<<32 + 4,
	math.MinInt, math.MinInt + 1, math.MinInt + 8, math.MaxInt, math.MaxInt - 1,
}

// lock is the lock of the chapter's examples.
var lock = api.Resource{Name: "a", Kind: api.Lock, Units: 1}

// pool returns a pool of n units.
func pool(n int) api.Resource {
	return api.Resource{Name: "p", Kind: api.Pool, Units: n}
}

// m returns the amount with this mode and no units.
func m(mode int) api.Amount {
	return api.Amount{Mode: mode}
}

// u returns the amount of this number of units without a mode.
func u(units int) api.Amount {
	return api.Amount{Units: units}
}

// shaped returns all resources that are shaped: the lock and the pools of 1 to 8 units.
func shaped() []api.Resource {
	out := []api.Resource{lock}
	for n := 1; n <= 8; n++ {
		out = append(out, pool(n))
	}
	return out
}

// unshaped returns resources that are not shaped.
func unshaped() []api.Resource {
	var out []api.Resource
	for _, kind := range numbers {
		for _, units := range numbers {
			if kind == api.Lock && units == 1 || kind == api.Pool && units >= 1 && units <= 8 {
				continue
			}
			out = append(out, api.Resource{Name: "a", Kind: kind, Units: units})
		}
	}
	return out
}

// everyAmount returns the amounts of all pairs of numbers.
func everyAmount() []api.Amount {
	var out []api.Amount
	for _, mode := range numbers {
		for _, units := range numbers {
			out = append(out, api.Amount{Mode: mode, Units: units})
		}
	}
	return out
}

// fitting returns all amounts that fit r, from a list of them for each kind.
func fitting(r api.Resource) []api.Amount {
	if r.Kind == api.Lock {
		return []api.Amount{m(api.IS), m(api.IX), m(api.S), m(api.SIX), m(api.X)}
	}
	return []api.Amount{u(1), u(2), u(3), u(4), u(5), u(6), u(7), u(8)}[:r.Units]
}

// permitted returns all amounts that are permitted for r.
func permitted(r api.Resource) []api.Amount {
	return append(fitting(r), api.Amount{})
}

// refused returns amounts that are not permitted for r.
func refused(r api.Resource) []api.Amount {
	good := permitted(r)
	return slices.DeleteFunc(everyAmount(), func(a api.Amount) bool { return slices.Contains(good, a) })
}

// P4.1: a lock of one unit and pools of 1 to MaxUnits units are shaped, whatever their other fields are.
func TestShaped(t *testing.T) {
	for _, r := range shaped() {
		for _, name := range []string{"", "a", "not a name", "\x00", "IS"} {
			for _, home := range numbers {
				r.Name, r.Home = name, home
				if !amount.Shaped(r) {
					t.Errorf("Shaped(%+v) = false", r)
				}
			}
		}
	}
}

// P4.1: other resources are not shaped.
func TestShapedRefuses(t *testing.T) {
	if amount.Shaped(api.Resource{}) {
		t.Error("the zero resource is shaped")
	}
	for _, r := range unshaped() {
		if amount.Shaped(r) {
			t.Errorf("Shaped(%+v) = true", r)
		}
	}
}

// P4.1: an amount is zero if Mode and Units are 0.
func TestZero(t *testing.T) {
	for _, a := range everyAmount() {
		if got := amount.Zero(a); got != (a.Mode == 0 && a.Units == 0) {
			t.Errorf("Zero(%+v) = %t", a, got)
		}
	}
}

// P4.1: the modes fit a lock, 1 to its units fit a pool, and no other amounts do.
func TestFits(t *testing.T) {
	for _, r := range shaped() {
		good := fitting(r)
		for _, a := range everyAmount() {
			if got := amount.Fits(r, a); got != slices.Contains(good, a) {
				t.Errorf("Fits(%+v, %+v) = %t", r, a, got)
			}
		}
	}
}

// P4.1: whether an amount fits does not depend on the name and the home.
func TestFitsOtherFields(t *testing.T) {
	for _, home := range numbers {
		a := api.Resource{Name: "\xff ", Kind: api.Lock, Units: 1, Home: home}
		p := api.Resource{Kind: api.Pool, Units: 2, Home: home}
		if !amount.Fits(a, m(api.SIX)) || !amount.Fits(p, u(2)) || amount.Fits(p, u(3)) {
			t.Errorf("Fits with the home %d", home)
		}
	}
}

// P4.1: no amount fits a resource that is not shaped.
func TestFitsUnshaped(t *testing.T) {
	for _, r := range unshaped() {
		for _, a := range everyAmount() {
			if amount.Fits(r, a) {
				t.Errorf("Fits(%+v, %+v) = true", r, a)
			}
		}
	}
}
