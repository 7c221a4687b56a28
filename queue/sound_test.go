package queue_test

import (
	"math/rand"
	"slices"
	"testing"

	"clusterlocks/api"
	"clusterlocks/queue"
)

// wantState checks Sound, Settled and Valid.
func wantState(t *testing.T, q api.Queue, sound, settled bool) {
	t.Helper()
	if got := queue.Sound(q); got != sound {
		t.Errorf("Sound(%+v) = %t", q, got)
	}
	if got := queue.Settled(q); got != settled {
		t.Errorf("Settled(%+v) = %t", q, got)
	}
	if got := queue.Valid(q); got != settled {
		t.Errorf("Valid(%+v) = %t", q, got)
	}
}

// badResources are resources that are not valid.
var badResources = []api.Resource{
	{}, {Name: "a"}, {Kind: api.Lock, Units: 1}, {Name: "all", Kind: api.Lock, Units: 1}, {Name: "A", Kind: api.Lock, Units: 1}, {Name: "a2345678901234", Kind: api.Lock, Units: 1},
	{Name: "a", Kind: api.Lock}, {Name: "a", Kind: api.Lock, Units: 2}, {Name: "a", Kind: 3, Units: 1}, {Name: "a", Kind: 0, Units: 1}, pool(0), pool(9), pool(-1),
	{Name: "a", Kind: api.Lock, Units: 1, Home: -1}, {Name: "a", Kind: api.Lock, Units: 1, Home: 4}, {Name: "p", Kind: api.Pool, Units: 3, Home: 4},
}

// P12.1: the queue of a resource without grants, conversions and claims, which is valid.
func TestNew(t *testing.T) {
	for _, r := range append(slices.Clone(samples), api.Resource{Name: "a23456789012", Kind: api.Pool, Units: 2, Home: 2}) {
		q, err := queue.New(r)
		if err != api.OK || !same(q, api.Queue{Resource: r}) {
			t.Errorf("New(%+v) = %+v, %d", r, q, err)
		}
		wantState(t, q, true, true)
	}
}

// P12.1: ErrArg for a resource that is not valid, whose queue is not sound either.
func TestNewRefuses(t *testing.T) {
	for _, r := range badResources {
		if q, err := queue.New(r); err != api.ErrArg || !same(q, api.Queue{}) {
			t.Errorf("New(%+v) = %+v, %d", r, q, err)
		}
		wantState(t, api.Queue{Resource: r}, false, false)
	}
}

// base returns a valid queue of a lock with two grants, a conversion of the second one and two claims.
func base() api.Queue {
	return api.Queue{
		Resource: lock,
		Holds:    []api.Hold{grant(0, m(api.IS)), grant(1, m(api.S))},
		Converts: []api.Wait{conv(1, m(api.X))},
		Waits:    []api.Wait{{Proc: procs[2], Amount: m(api.X), Priority: 7, Passed: 3}, conv(3, m(api.IS))},
		Gen:      4,
	}
}

// poolBase returns a valid queue of a pool of 3 units with two grants, two conversions and two claims.
func poolBase() api.Queue {
	return api.Queue{
		Resource: pool(3),
		Holds:    []api.Hold{grant(0, u(1)), grant(1, u(2))},
		Converts: []api.Wait{conv(1, u(3)), conv(0, u(2))},
		Waits:    []api.Wait{conv(2, u(1)), {Proc: procs[3], Amount: u(3), Priority: 2, Passed: 1}},
		Gen:      4,
	}
}

// P12.1: all queues of the model are valid, and so is each of them with all generations in their range, and with another home and another name.
func TestValidQueues(t *testing.T) {
	for i, q := range append(validQueues(), base(), poolBase()) {
		wantState(t, q, true, true)
		q.Gen = []int{0, 1, api.MaxGen - 1, api.MaxGen}[i%4]
		q.Resource.Home = i / 4 % 4
		q.Resource.Name = []string{"a", "z", "long-name_12"}[i%3]
		wantState(t, q, true, true)
	}
}

// P12.1: Gen is from 0 to MaxGen.
func TestSoundGen(t *testing.T) {
	for _, gen := range append([]int{api.MaxGen, api.MaxGen + 1, 1<<32 + api.MaxGen}, numbers...) {
		q := base()
		q.Gen = gen
		ok := gen >= 0 && gen <= 1<<30
		wantState(t, q, ok, ok)
	}
}

// P12.1: the resource must be valid, also that of a queue in which somebody waits.
func TestSoundResource(t *testing.T) {
	for _, r := range badResources {
		for _, q := range []api.Queue{base(), poolBase()} {
			q.Resource = r
			wantState(t, q, false, false)
		}
	}
}

// P12.1: the grants must be valid for the resource.
func TestSoundGrants(t *testing.T) {
	s, x := m(api.S), m(api.X)
	bad := [][]api.Hold{
		{grant(1, s), grant(0, s)}, {grant(0, s), grant(0, s)}, {grant(0, s), grant(1, x)}, {grant(0, s), grant(1, u(1))}, {grant(0, m(0))}, {grant(0, m(6))}, {{Proc: noProcs[3], Amount: s}},
		{grant(0, s), grant(1, s), grant(2, s), grant(3, s), grant(4, s), grant(5, s), grant(6, s), grant(7, s), grant(8, s)},
		slices.Repeat([]api.Hold{grant(0, s)}, 1<<20),
	}
	for _, l := range bad {
		wantState(t, api.Queue{Resource: lock, Holds: l}, false, false)
		wantState(t, api.Queue{Resource: lock, Holds: l, Waits: []api.Wait{conv(9, x)}}, false, false)
		wantState(t, api.Queue{Resource: lock, Holds: l, Converts: []api.Wait{conv(0, x)}}, false, false)
	}
	for _, l := range [][]api.Hold{{grant(0, u(2)), grant(1, u(2))}, {grant(0, u(4))}, {grant(0, u(-1)), grant(1, u(3))}, {grant(0, s)}} {
		wantState(t, api.Queue{Resource: pool(3), Holds: l}, false, false)
	}
}

// P12.1: the target of a conversion must cover what the process holds, and be more than that.
func TestSoundTargets(t *testing.T) {
	for _, r := range samples {
		for _, held := range fitting(r) {
			for _, target := range append(unfit(r), fitting(r)...) {
				fits := slices.Contains(fitting(r), target)
				q := api.Queue{Resource: r, Holds: []api.Hold{grant(4, held)}, Converts: []api.Wait{conv(4, target)}}
				// It could be granted at once, as nobody else holds anything.
				wantState(t, q, fits && target != held && covers(target, held), false)
			}
		}
	}
}

// P12.1: only processes that hold something have conversions, each of them one.
func TestSoundConverts(t *testing.T) {
	for i := range procs {
		q := base()
		q.Converts = []api.Wait{conv(1, m(api.X)), conv(i, m(api.X))}
		wantState(t, q, i == 0, i == 0)
		q.Converts = []api.Wait{conv(i, m(api.X)), conv(1, m(api.X))}
		wantState(t, q, i == 0, i == 0)
	}
	for _, p := range noProcs {
		q := base()
		q.Converts = append(q.Converts, api.Wait{Proc: p, Amount: m(api.X)})
		wantState(t, q, false, false)
	}
	q := base()
	q.Converts = []api.Wait{conv(1, m(api.SIX)), conv(1, m(api.X))}
	wantState(t, q, false, false)
}

// P12.1: the Priority and the Passed of a conversion are 0, wherever it stands.
func TestSoundConvertFields(t *testing.T) {
	for _, n := range numbers {
		for at := range 2 {
			q := poolBase()
			q.Converts[at].Priority = n
			wantState(t, q, n == 0, n == 0)
			q = poolBase()
			q.Converts[at].Passed = n
			wantState(t, q, n == 0, n == 0)
		}
	}
}

// P12.1: the claims must be a valid line.
func TestSoundLine(t *testing.T) {
	for _, n := range numbers {
		q := base()
		q.Waits[1].Priority = n
		wantState(t, q, n >= 0 && n <= 7, n >= 0 && n <= 7)
		q = base()
		q.Waits[1].Passed = n
		wantState(t, q, n >= 0 && n <= 3, n >= 0 && n <= 3)
	}
	for _, p := range noProcs {
		for at := range 2 {
			q := base()
			q.Waits[at].Proc = p
			wantState(t, q, false, false)
		}
	}
	q := base()
	q.Waits = append(q.Waits, q.Waits[0])
	wantState(t, q, false, false)
}

// P12.1: the target of a claim must fit the resource; one that fits another resource does not do.
func TestSoundClaims(t *testing.T) {
	for _, r := range samples {
		most := fitting(r)[len(fitting(r))-1]
		for _, a := range append(unfit(r), fitting(r)...) {
			q := api.Queue{Resource: r, Holds: []api.Hold{grant(0, most)}, Waits: []api.Wait{conv(1, a)}}
			ok := slices.Contains(fitting(r), a)
			wantState(t, q, ok, ok)
			q.Waits = []api.Wait{conv(1, most), conv(2, a)}
			wantState(t, q, ok, ok)
		}
	}
}

// P12.1: no process that holds something has a claim.
func TestSoundHoldersWithClaims(t *testing.T) {
	for i := range procs {
		q := base()
		q.Waits = []api.Wait{conv(i, m(api.X)), conv(9, m(api.X))}
		wantState(t, q, i != 0 && i != 1 && i != 9, i != 0 && i != 1 && i != 9)
		q.Waits[0].Amount, q.Converts = m(api.S), nil
		wantState(t, q, i != 0 && i != 1 && i != 9, false)
	}
}

// crowd returns a queue of a lock with this many grants in IS, conversions to S behind one to X, and claims of X.
func crowd(grants, converts, claims int) api.Queue {
	q := api.Queue{Resource: lock}
	for i := range grants {
		q.Holds = append(q.Holds, grant(i, m(api.IS)))
	}
	for i := range converts {
		q.Converts = append(q.Converts, conv(i, m([]int{api.X, api.S}[min(i, 1)])))
	}
	for i := range claims {
		q.Waits = append(q.Waits, conv(len(procs)-1-i, m(api.X)))
	}
	return q
}

// P12.1: grants and claims together are at most MaxProcs; conversions do not count.
func TestSoundNumbers(t *testing.T) {
	for grants := range 10 {
		for claims := range len(procs) - grants + 1 {
			ok := grants+claims <= 8
			wantState(t, crowd(grants, 0, claims), ok, ok && (grants > 0 || claims == 0))
			for converts := 1; converts <= grants; converts++ {
				wantState(t, crowd(grants, converts, claims), ok, ok && grants > 1)
			}
		}
	}
	many := crowd(8, 8, 0)
	many.Converts = append(many.Converts, conv(8, m(api.X)))
	wantState(t, many, false, false)
	many.Converts = slices.Repeat(many.Converts[:8], 1<<17)
	wantState(t, many, false, false)
	wantState(t, api.Queue{Resource: lock, Waits: slices.Repeat([]api.Wait{conv(1, m(api.X))}, 1<<20)}, false, false)
}

// sound says whether q is sound, clause by clause.
func sound(q api.Queue) bool {
	x := modelOf(q)
	seen := map[api.Proc]bool{}
	for i, h := range q.Holds {
		rest := &model{r: q.Resource, held: map[api.Proc]api.Amount{}}
		for _, g := range q.Holds[:i] {
			rest.held[g.Proc] = g.Amount
		}
		if i > 0 && ascending(q.Holds[i-1].Proc, h.Proc) >= 0 || !slices.Contains(fitting(q.Resource), h.Amount) || len(rest.against(conv(9, h.Amount))) > 0 {
			return false
		}
	}
	for _, w := range q.Converts {
		if x.held[w.Proc] == m(0) || seen[w.Proc] || w.Amount == x.held[w.Proc] || w.Amount == m(0) || !covers(w.Amount, x.held[w.Proc]) || w.Priority != 0 || w.Passed != 0 {
			return false
		}
		seen[w.Proc] = true
	}
	for _, w := range q.Waits {
		if x.held[w.Proc] != m(0) || seen[w.Proc] {
			return false
		}
		seen[w.Proc] = true
	}
	return len(q.Holds)+len(q.Waits) <= 8
}

// anyQueues returns queues of valid resources with grants, conversions and claims of the right form, most of which do not agree with each other.
func anyQueues(count int) []api.Queue {
	rng := rand.New(rand.NewSource(12))
	var out []api.Queue
	for range count {
		q := api.Queue{Resource: samples[rng.Intn(len(samples))], Gen: rng.Intn(9)}
		some := 1 + rng.Intn(9)
		pick := func() (api.Proc, api.Amount) {
			all := fitting(q.Resource)
			return procs[rng.Intn(some)], all[rng.Intn(1+rng.Intn(len(all)))]
		}
		for i := range some {
			if rng.Intn(2) == 0 {
				_, a := pick()
				q.Holds = append(q.Holds, grant(i, a))
			}
		}
		for range rng.Intn(3) {
			p, a := pick()
			q.Converts = append(q.Converts, api.Wait{Proc: p, Amount: a})
		}
		for range rng.Intn(5) {
			p, a := pick()
			q.Waits = append(q.Waits, api.Wait{Proc: p, Amount: a, Priority: rng.Intn(8), Passed: rng.Intn(4)})
		}
		out = append(out, q)
	}
	return out
}

// P12.1: in queues that were put together at random, Sound reports all that the chapter asks for, and Settled and Valid whether the head of a sound one cannot be granted.
func TestSoundAny(t *testing.T) {
	count := map[bool]int{}
	for _, q := range anyQueues(60000) {
		ok := sound(q)
		x := modelOf(q)
		wantState(t, q, ok, ok && (len(x.order) == 0 || len(x.against(x.order[0])) > 0))
		count[ok]++
	}
	if count[true] < 3000 || count[false] < 3000 {
		t.Errorf("%v are sound", count)
	}
}
