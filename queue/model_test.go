package queue_test

import (
	"cmp"
	"fmt"
	"math"
	"math/rand"
	"slices"

	"clusterlocks/api"
)

// numbers are ordinary numbers, those at the limits, and numbers that would be in range if they were cut to fewer bits.
var numbers = []int{
	-9, -3, -1, 0, 1, 2, 3, 4, 5, 6, 7, 8, 9, 98, 99, 100, 998, 999, 1000,
	1<<8 + 1, -1<<8 + 3, 1<<16 + 2, 1<<32 + 1, -1<<32 + 2, math.MinInt, math.MinInt + 1, math.MaxInt,
}

// procs are valid processes, ascending; each number of a process is that of another one, too.
var procs = []api.Proc{
	{Site: 0, Inc: 1, Num: 1}, {Site: 0, Inc: 1, Num: 2}, {Site: 0, Inc: 2, Num: 1}, {Site: 0, Inc: 99, Num: 999}, {Site: 1, Inc: 1, Num: 1},
	{Site: 1, Inc: 2, Num: 1}, {Site: 2, Inc: 1, Num: 1}, {Site: 3, Inc: 1, Num: 999}, {Site: 3, Inc: 99, Num: 1}, {Site: 3, Inc: 99, Num: 999},
}

// noProcs are processes that are not valid, each because of one number but for the first.
var noProcs = []api.Proc{
	{}, {Site: -1, Inc: 1, Num: 1}, {Site: 4, Inc: 1, Num: 1}, {Inc: 0, Num: 1}, {Inc: -1, Num: 1}, {Inc: 100, Num: 1}, {Inc: 1, Num: 0}, {Inc: 1, Num: -1}, {Inc: 1, Num: 1000},
	{Site: math.MinInt, Inc: 1, Num: 1}, {Site: 1, Inc: math.MaxInt, Num: 1}, {Site: 1, Inc: 1, Num: math.MaxInt}, {Site: 1 << 32, Inc: 1, Num: 1},
}

var lock = api.Resource{Name: "a", Kind: api.Lock, Units: 1}

func pool(n int) api.Resource {
	return api.Resource{Name: "p", Kind: api.Pool, Units: n, Home: 3}
}

// samples are resources of both kinds.
var samples = []api.Resource{lock, pool(1), pool(3), pool(8)}

func m(mode int) api.Amount  { return api.Amount{Mode: mode} }
func u(units int) api.Amount { return api.Amount{Units: units} }

// grant is what the process with this index holds.
func grant(i int, a api.Amount) api.Hold { return api.Hold{Proc: procs[i], Amount: a} }

// conv is a conversion, or a claim of priority 0 that was never overtaken, of the process with this index.
func conv(i int, a api.Amount) api.Wait { return api.Wait{Proc: procs[i], Amount: a} }

// fitting returns all amounts that fit r.
func fitting(r api.Resource) []api.Amount {
	if r.Kind == api.Lock {
		return []api.Amount{m(api.IS), m(api.IX), m(api.S), m(api.SIX), m(api.X)}
	}
	return []api.Amount{u(1), u(2), u(3), u(4), u(5), u(6), u(7), u(8)}[:r.Units]
}

// unfit returns amounts that do not fit r, the zero amount first.
func unfit(r api.Resource) []api.Amount {
	out := []api.Amount{{}}
	for _, mode := range numbers {
		for _, units := range numbers {
			if a := (api.Amount{Mode: mode, Units: units}); a != out[0] && !slices.Contains(fitting(r), a) {
				out = append(out, a)
			}
		}
	}
	return out
}

// friends are the pairs of modes that are compatible, the lesser number first.
var friends = [][2]int{{api.IS, api.IS}, {api.IS, api.IX}, {api.IS, api.S}, {api.IS, api.SIX}, {api.IX, api.IX}, {api.S, api.S}}

// apart says whether two processes may not hold these modes at the same time.
func apart(a, b int) bool {
	return !slices.Contains(friends, [2]int{min(a, b), max(a, b)})
}

// above are the modes that each mode covers, but for itself.
var above = map[int][]int{api.IX: {api.IS}, api.S: {api.IS}, api.SIX: {api.IS, api.IX, api.S}, api.X: {api.IS, api.IX, api.S, api.SIX}}

// covers says whether a, which is not zero, covers b; both are permitted.
func covers(a, b api.Amount) bool {
	return a == b || slices.Contains(above[a.Mode], b.Mode) || a.Mode == 0 && a.Units > b.Units || b == m(0)
}

// join returns the least amount that covers both.
func join(a, b api.Amount) api.Amount {
	switch {
	case covers(a, b):
		return a
	case covers(b, a):
		return b
	}
	return m(api.SIX)
}

// model says again what the chapter says of a sound queue, with a map of what is held and one list of all that wait, in which the conversions stand first.
type model struct {
	r        api.Resource
	held     map[api.Proc]api.Amount
	order    []api.Wait
	converts int
	gen      int
}

func modelOf(q api.Queue) *model {
	x := &model{r: q.Resource, held: map[api.Proc]api.Amount{}, order: slices.Concat(q.Converts, q.Waits), converts: len(q.Converts), gen: q.Gen}
	for _, h := range q.Holds {
		x.held[h.Proc] = h.Amount
	}
	return x
}

func (x *model) queue() api.Queue {
	q := api.Queue{Resource: x.r, Converts: slices.Clone(x.order[:x.converts]), Waits: slices.Clone(x.order[x.converts:]), Gen: x.gen}
	for p, a := range x.held {
		q.Holds = append(q.Holds, api.Hold{Proc: p, Amount: a})
	}
	slices.SortFunc(q.Holds, func(g, h api.Hold) int { return ascending(g.Proc, h.Proc) })
	return q
}

func ascending(p, q api.Proc) int {
	return cmp.Or(cmp.Compare(p.Site, q.Site), cmp.Compare(p.Inc, q.Inc), cmp.Compare(p.Num, q.Num))
}

// against returns the processes that keep w from being granted.
func (x *model) against(w api.Wait) []api.Proc {
	var clash, others []api.Proc
	left := x.r.Units
	for p, a := range x.held {
		if p == w.Proc {
			continue
		}
		others = append(others, p)
		left -= a.Units
		if apart(a.Mode, w.Amount.Mode) {
			clash = append(clash, p)
		}
	}
	switch {
	case x.r.Kind == api.Lock:
		return clash
	case w.Amount.Units > left:
		return others
	}
	return nil
}

func (x *model) advance() []api.Hold {
	var grants []api.Hold
	for len(x.order) > 0 && len(x.against(x.order[0])) == 0 {
		w := x.order[0]
		x.held[w.Proc] = w.Amount
		grants = append(grants, api.Hold{Proc: w.Proc, Amount: w.Amount})
		x.drop(0)
	}
	return grants
}

// drop takes the element at this index out of the order.
func (x *model) drop(at int) {
	x.order = slices.Delete(slices.Clone(x.order), at, at+1)
	if at < x.converts {
		x.converts--
	}
}

// find returns the index of p in the order, or -1.
func (x *model) find(p api.Proc) int {
	return slices.IndexFunc(x.order, func(w api.Wait) bool { return w.Proc == p })
}

// insert puts w at its place: behind all conversions, and behind the last claim that it does not pass.
func (x *model) insert(w api.Wait) {
	at := x.converts
	for i := x.converts; i < len(x.order); i++ {
		if e := x.order[i]; e.Priority >= w.Priority || e.Passed == 3 {
			at = i + 1
		}
	}
	x.order = slices.Insert(slices.Clone(x.order), at, w)
	for i := at + 1; i < len(x.order); i++ {
		x.order[i].Passed++
	}
}

// finish advances the queue that was changed.
func (x *model) finish() ([]api.Hold, api.Errno) {
	x.gen = x.gen%api.MaxGen + 1
	return x.advance(), api.OK
}

func (x *model) claim(p api.Proc, a api.Amount, priority int) ([]api.Hold, api.Errno) {
	held, holds := x.held[p]
	switch {
	case !slices.Contains(procs, p) || priority < 0 || priority > 7:
		return nil, api.ErrArg
	case !slices.Contains(fitting(x.r), a):
		return nil, api.ErrAmount
	case x.find(p) >= 0:
		return nil, api.ErrState
	case holds && covers(held, a):
		return nil, api.OK
	case !holds && len(x.held)+len(x.order)-x.converts >= 8:
		return nil, api.ErrTooMany
	case holds:
		x.order = slices.Insert(slices.Clone(x.order), x.converts, api.Wait{Proc: p, Amount: join(held, a)})
		x.converts++
	default:
		x.insert(api.Wait{Proc: p, Amount: a, Priority: priority})
	}
	return x.finish()
}

func (x *model) cancel(p api.Proc) ([]api.Hold, api.Errno) {
	if x.find(p) < 0 {
		return nil, api.ErrUnknown
	}
	x.drop(x.find(p))
	return x.finish()
}

func (x *model) lower(p api.Proc, a api.Amount) ([]api.Hold, api.Errno) {
	held, holds := x.held[p]
	permitted := a == m(0) || slices.Contains(fitting(x.r), a)
	switch {
	case !holds:
		return nil, api.ErrUnknown
	case x.find(p) >= 0:
		return nil, api.ErrState
	case !permitted || !covers(held, a):
		return nil, api.ErrAmount
	case a == held:
		return nil, api.OK
	}
	x.held[p] = a
	if a == m(0) {
		delete(x.held, p)
	}
	return x.finish()
}

func (x *model) remove(p api.Proc) ([]api.Hold, api.Errno) {
	_, holds := x.held[p]
	if !holds && x.find(p) < 0 {
		return nil, api.ErrUnknown
	}
	delete(x.held, p)
	if x.find(p) >= 0 {
		x.drop(x.find(p))
	}
	return x.finish()
}

// wanted returns the target of p, a zero amount if p does not wait.
func (x *model) wanted(p api.Proc) (api.Amount, bool) {
	if x.find(p) < 0 {
		return m(0), false
	}
	return x.order[x.find(p)].Amount, true
}

// blockers returns the processes for which p waits.
func (x *model) blockers(p api.Proc) []api.Proc {
	at := x.find(p)
	if at < 0 {
		return nil
	}
	set := map[api.Proc]bool{}
	for _, w := range x.order[:at] {
		set[w.Proc] = true
	}
	for _, q := range x.against(x.order[at]) {
		set[q] = true
	}
	return sorted(set)
}

// sorted returns the processes of a set, ascending.
func sorted(set map[api.Proc]bool) []api.Proc {
	var out []api.Proc
	for p := range set {
		out = append(out, p)
	}
	slices.SortFunc(out, ascending)
	return out
}

// same says whether two queues are equal, where a nil list and an empty one are.
func same(a, b api.Queue) bool {
	return a.Resource == b.Resource && a.Gen == b.Gen && slices.Equal(a.Holds, b.Holds) && slices.Equal(a.Converts, b.Converts) && slices.Equal(a.Waits, b.Waits)
}

// smallQueues returns all valid queues that claims of the first three processes lead to, with some amounts and two priorities; Gen is 0.
func smallQueues(r api.Resource, amounts ...api.Amount) []api.Queue {
	first := api.Queue{Resource: r}
	out := []api.Queue{first}
	seen := map[string]bool{fmt.Sprint(first): true}
	for i := 0; i < len(out); i++ {
		for _, p := range procs[:3] {
			for _, a := range amounts {
				for _, priority := range []int{0, 5} {
					x := modelOf(out[i])
					x.claim(p, a, priority)
					x.gen = 0
					if q := x.queue(); !seen[fmt.Sprint(q)] {
						seen[fmt.Sprint(q)] = true
						out = append(out, q)
					}
				}
			}
		}
	}
	return out
}

// walk returns the queues through which a random run of changes leads, which begins with a queue of r without grants and a Gen near one of its limits.
func walk(r api.Resource, rng *rand.Rand, steps int) []api.Queue {
	x := &model{r: r, held: map[api.Proc]api.Amount{}, gen: rng.Intn(3)}
	if rng.Intn(2) == 0 {
		x.gen = api.MaxGen - rng.Intn(20)
	}
	some, most, weak := 2+rng.Intn(len(procs)-1), 1+rng.Intn(8), 1+rng.Intn(len(fitting(r)))
	out := []api.Queue{x.queue()}
	for range steps {
		p, a := procs[rng.Intn(some)], fitting(r)[rng.Intn(weak)]
		switch rng.Intn(12) {
		case 0:
			x.cancel(p)
		case 1:
			x.lower(p, a)
		case 2:
			x.lower(p, m(0))
		case 3:
			x.remove(p)
		default:
			x.claim(p, a, rng.Intn(most))
		}
		out = append(out, x.queue())
	}
	return out
}

// walks returns the queues of many random runs.
func walks(count int) []api.Queue {
	rng := rand.New(rand.NewSource(12))
	var out []api.Queue
	for i := range count {
		out = append(out, walk(samples[i%len(samples)], rng, 40)...)
	}
	return out
}

// validQueues returns valid queues of all sorts.
func validQueues() []api.Queue {
	return slices.Concat(smallQueues(lock, m(api.IX), m(api.S), m(api.X)), smallQueues(pool(3), fitting(pool(3))...), walks(200))
}
