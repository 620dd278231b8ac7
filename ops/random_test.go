package ops_test

import (
	"math"
	"math/rand"
	"slices"
	"testing"

	"terrier/api"
	"terrier/config"
	"terrier/ops"
	"terrier/wire"
)

// random makes events and states of a few addresses, ticks and stations.
type random struct {
	*rand.Rand
	addrs int
}

func newRandom(seed int64, addrs int) *random {
	return &random{rand.New(rand.NewSource(seed)), addrs}
}

func (r *random) addr() api.Addr { return net + api.Addr(r.Intn(r.addrs)) }

func (r *random) mac() api.Mac { return []api.Mac{none, none, one, two, three}[r.Intn(5)] }

func (r *random) owner() string {
	return []string{"a", "ann", "bob", "cat9", "12345678", "ann", "", "Ann", "123456789"}[r.Intn(9)]
}

// config is one with small numbers, mostly.
func (r *random) config() api.Config {
	n := func(most int) int { return r.Intn(1 + r.Intn(most)) }
	fresh := n(12)
	return config.Fit(api.Config{Fresh: fresh, Old: fresh + n(20), Need: n(8), Every: n(20), Rate: n(30), Wait: n(8), Again: n(10), Open: n(20), Quiet: n(30)})
}

// event is one that is wrong now and then.
func (r *random) event() api.Event {
	e := api.Event{
		What:   api.What(r.Intn(8)),
		Holder: api.Holder{Addr: r.addr(), Owner: r.owner(), Mac: r.mac()},
		Sight:  api.Sight{From: api.Source(r.Intn(4)), Mac: r.mac(), At: r.Intn(99) - 9},
	}
	if r.Intn(50) == 0 {
		e.What = api.What(r.Intn(30) - 10)
	}
	if r.Intn(20) == 0 {
		e.Sight.From = api.Source(r.Intn(20) - 8)
	}
	e.Block = r.block()
	return e
}

func (r *random) block() api.Block {
	bits := 28 + r.Intn(5)
	if r.Intn(8) == 0 {
		bits = 22 + r.Intn(12)
	}
	base := r.addr()
	if r.Intn(8) > 0 && bits <= 32 {
		base &^= 1<<(32-bits) - 1
	}
	return api.Block{Base: base, Bits: bits}
}

// near is a tick not long ago, or, now and then, ahead.
func (r *random) near(now int) int {
	n := now - r.Intn(1+r.Intn(40))
	if r.Intn(30) == 0 {
		n = now + r.Intn(5)
	}
	return min(max(n, 0), lastTick)
}

// some are addresses, rising: more than most of them only if there are more places.
func (r *random) some(most int) []api.Addr {
	n := r.Intn(most + 1)
	if r.Intn(4) == 0 {
		n = most
	}
	var as []api.Addr
	for _, i := range r.Perm(max(r.addrs, most))[:n] {
		as = append(as, net+api.Addr(i))
	}
	slices.Sort(as)
	return as
}

// state is one that is valid.
func (r *random) state() api.State {
	now := []int{r.Intn(50), 1000 + r.Intn(9), lastTick - r.Intn(30), lastTick}[r.Intn(4)]
	s := api.State{Now: now, Seq: r.Intn(100)}
	if r.Intn(4) == 0 {
		s.Seq = 65535 - r.Intn(20)
	}
	for _, a := range r.some(maxHolders) {
		s.Holders = append(s.Holders, holder(a, "ann", r.mac()))
	}
	for _, a := range r.some(maxKnown) {
		s.Known = append(s.Known, api.Known{Addr: a, Seen: r.sights(now)})
	}
	for _, a := range r.some(maxProbes) {
		s.Probes = append(s.Probes, question(a, r.Intn(9), r.near(now), r.Intn(9)))
	}
	r.Shuffle(len(s.Probes), func(i, j int) { s.Probes[i], s.Probes[j] = s.Probes[j], s.Probes[i] })
	s.Cases = r.cases(now)
	s.Sweeps = r.sweeps(now)
	return s
}

func (r *random) sights(now int) []api.Sight {
	var ss []api.Sight
	for range 1 + r.Intn(8) {
		ss = append(ss, api.Sight{From: api.Source(r.Intn(4)), Mac: r.mac(), At: r.near(now)})
	}
	slices.SortFunc(ss, func(x, y api.Sight) int { return x.At - y.At })
	if r.Intn(60) == 0 {
		ss[len(ss)-1].At = lastTick + r.Intn(9)
	}
	return ss
}

func (r *random) cases(now int) []api.Case {
	var cs []api.Case
	for _, a := range r.some(maxCases) {
		x := open(a, r.near(now), api.Stage(r.Intn(2)))
		if r.Intn(2) == 0 {
			x = over(r.addr(), x.Raised, min(x.Raised+r.Intn(20), lastTick), api.Rejected+api.Stage(r.Intn(4)))
		}
		cs = append(cs, x)
	}
	r.Shuffle(len(cs), func(i, j int) { cs[i], cs[j] = cs[j], cs[i] })
	return cs
}

func (r *random) sweeps(now int) []api.Sweep {
	var ss []api.Sweep
	base := net
	n := r.Intn(maxSweeps + 1)
	if r.Intn(3) == 0 {
		n = maxSweeps
	}
	for range n {
		bits := 28 + r.Intn(5)
		size := api.Addr(1) << (32 - bits)
		base = (base + size - 1) &^ (size - 1)
		ss = append(ss, sweepAt(base, bits, min(r.near(now)+r.Intn(4), lastTick), r.Intn(int(size))))
		base += size
	}
	return ss
}

// counts are how often which kind of event had which error.
type counts [8][api.ErrArgument + 1]int

func (n *counts) add(e api.Event, err api.Errno) {
	if e.What >= 0 && e.What < 8 {
		n[e.What][err]++
	}
}

func (n *counts) check(t *testing.T, what api.What, errs ...api.Errno) {
	t.Helper()
	for _, err := range append(errs, 0) {
		if n[what][err] < 20 {
			t.Errorf("kind %d had the error %d only %d times", what, err, n[what][err])
		}
	}
}

// Valid states, whichever: each event does what the model does.
func TestRandomStates(t *testing.T) {
	r := newRandom(181, 24)
	var n counts
	for i := range 4000 {
		r.addrs = []int{6, 24, 60, 200}[i%4]
		c, s := r.config(), r.state()
		if !right(s) {
			t.Fatalf("the test made\n%+v", s)
		}
		for _, e := range []api.Event{tick, r.event(), r.event(), r.event()} {
			want, sent, err := modelDo(c, s, e)
			checkDo(t, c, s, e, want, sent, err)
			n.add(e, err)
		}
		for range 4 {
			a := r.addr()
			if got, want := ops.Status(c, s, a), modelOf(c, s).status(a); got != want {
				t.Fatalf("Status of %d in %+v is %d, want %d", a, s, got, want)
			}
		}
	}
	n.check(t, api.Tick)
	n.check(t, api.Hold, api.ErrArgument, api.ErrTaken, api.ErrFull)
	n.check(t, api.Drop, api.ErrUnknown)
	n.check(t, api.Watch, api.ErrArgument, api.ErrRange, api.ErrOverlap, api.ErrFull)
	n.check(t, api.Ignore, api.ErrUnknown)
	n.check(t, api.Saw, api.ErrUnknown, api.ErrArgument, api.ErrRange, api.ErrFull)
	n.check(t, api.Approve, api.ErrUnknown, api.ErrState)
	n.check(t, api.Reject, api.ErrUnknown, api.ErrState)
}

// step has an event happen in a run, and checks it.
func step(t *testing.T, c api.Config, s api.State, e api.Event) (api.State, []wire.Packet, api.Errno) {
	t.Helper()
	want, sent, err := modelDo(c, s, e)
	checkDo(t, c, s, e, want, sent, err)
	s, sent, err = ops.Do(c, s, e)
	return s, sent, err
}

// lastSeen is when an address was last seen; -1: never.
func lastSeen(s api.State, a api.Addr) int {
	for _, k := range s.Known {
		if k.Addr == a {
			return k.Seen[len(k.Seen)-1].At
		}
	}
	return -1
}

// checkGivenBack is for a tick: who has no holder any more was stale, and a case was approved that was raised behind the last sighting.
func checkGivenBack(t *testing.T, c api.Config, before, after api.State) int {
	t.Helper()
	n := 0
	for _, h := range before.Holders {
		if slices.Contains(after.Holders, h) {
			continue
		}
		n++
		approved := slices.ContainsFunc(before.Cases, func(x api.Case) bool {
			return x.Addr == h.Addr && x.Stage == api.Approved && x.Raised > lastSeen(before, h.Addr)
		})
		before.Now = after.Now
		if !approved || ops.Status(c, before, h.Addr) != api.Stale {
			t.Fatalf("%d was given back in\n%+v", h.Addr, before)
		}
	}
	return n
}

// From the beginning on, tick by tick: some of what is asked is answered, and much else happens. The states are valid, no tick sends more than Rate, and no address is given back that should not be.
func TestRandomRuns(t *testing.T) {
	var n counts
	var stages [6]int
	given := 0
	for run := range 24 {
		r := newRandom(int64(1800+run), []int{8, 24, 70, 120}[run%4])
		c := r.config()
		s := api.State{Now: []int{0, 0, lastTick - 200, 5}[run/4%4], Seq: []int{0, 65400}[run%2]}
		for range 250 {
			for range r.Intn(6) {
				e := r.event()
				if e.What == api.Tick || e.What == api.Drop && r.Intn(3) > 0 {
					e.What = api.Approve
				}
				var err api.Errno
				s, _, err = step(t, c, s, e)
				n.add(e, err)
			}
			before := s
			var sent []wire.Packet
			s, sent, _ = step(t, c, s, tick)
			given += checkGivenBack(t, c, before, s)
			if !right(s) || ahead(s) || len(sent) > c.Rate {
				t.Fatalf("sent %v, and\n%+v is not valid", sent, s)
			}
			for _, p := range sent {
				if r.Intn(4) == 0 {
					s, _, _ = step(t, c, s, saw(api.Echo, p.To, r.mac()))
				}
			}
			for _, x := range before.Cases {
				stages[x.Stage]++
			}
		}
	}
	for what := api.Hold; what < api.Whats; what++ {
		n.check(t, what)
	}
	if given < 20 || slices.Min(stages[:]) < 20 {
		t.Errorf("only %d were given back; the cases were %v", given, stages)
	}
}

// States stay as they were when later events happen.
func TestStatesStayAsTheyWere(t *testing.T) {
	type kept struct{ state, copy api.State }
	var states []kept
	r := newRandom(18, 24)
	c := conf()
	s := rich()
	for i := range 600 {
		e := r.event()
		if i%3 == 0 {
			e = tick
		}
		after, _, _ := ops.Do(c, s, e)
		states = append(states, kept{after, whole(after)})
		// The one that the state goes on with has another answer beside it.
		if r.Intn(4) > 0 {
			s = after
		}
	}
	for i, k := range states {
		if !same(whole(k.state), k.copy) {
			t.Fatalf("state %d was\n%+v and is\n%+v", i, k.copy, k.state)
		}
	}
}

// wrongStates are not valid, each in a way of its own.
func wrongStates() []api.State {
	ends := []int{math.MinInt, math.MinInt + 1, -lastTick, -2, -1, 0, 1, 8, 65535, 65536, 1 << 32, lastTick, lastTick + 1, math.MaxInt - 1, math.MaxInt}
	var states []api.State
	for _, n := range ends {
		states = append(states,
			with(func(s *api.State) { s.Now = n }),
			with(func(s *api.State) { s.Seq = n }),
			with(func(s *api.State) { s.Sweeps[1].Due = n }),
			with(func(s *api.State) { s.Sweeps[1].Next = n }),
			with(func(s *api.State) { s.Sweeps[1].Block.Bits = n }),
			with(func(s *api.State) { s.Known[0].Seen[0].At = n }),
			with(func(s *api.State) { s.Known[0].Seen[0].From = api.Source(n) }),
			with(func(s *api.State) {
				s.Probes[0] = api.Probe{Addr: net + 11, ID: n, Seq: n, Sent: n, Tries: n}
			}),
			with(func(s *api.State) { s.Cases[3] = over(net+11, n, n, api.Raised) }),
			with(func(s *api.State) { s.Cases[1] = over(net+14, n, n, api.Approved) }),
			with(func(s *api.State) { s.Cases[1].Stage = api.Stage(n) }),
		)
	}
	reversed := rich()
	slices.Reverse(reversed.Holders)
	slices.Reverse(reversed.Sweeps)
	slices.Reverse(reversed.Known)
	unseen := with(func(s *api.State) {
		for i := range s.Known {
			s.Known[i].Seen = nil
		}
	})
	double := rich()
	double.Holders = slices.Repeat(double.Holders, 9)
	double.Sweeps = slices.Repeat(double.Sweeps, 9)
	double.Known = slices.Repeat(double.Known, 20)
	double.Probes = slices.Repeat(double.Probes, 9)
	double.Cases = slices.Repeat(double.Cases, 9)
	return append(states, reversed, unseen, double, many(1000, 900), many(1000, 1000), api.State{
		Holders: make([]api.Holder, 20000), Sweeps: make([]api.Sweep, 20000), Known: make([]api.Known, 20000), Probes: make([]api.Probe, 20000), Cases: make([]api.Case, 20000),
	})
}

// many has lists that are much too long.
func many(n, at int) api.State {
	s := api.State{Now: 1000}
	s.Holders, s.Known = stale(row(net, n)...)
	for i := range n {
		s.Sweeps = append(s.Sweeps, sweepAt(net+api.Addr(8*i), 29, at, 0))
		s.Probes = append(s.Probes, question(net+api.Addr(i), i, at, 0))
		s.Cases = append(s.Cases, open(net+api.Addr(i), at, api.Stage(i%2)))
	}
	return s
}

// States, configurations and events that are not valid: whatever is answered, no call panics, and each one ends; an error leaves the state as it was.
func TestArgumentsThatAreNotValid(t *testing.T) {
	configs := []api.Config{conf(), {}}
	for _, n := range []int{math.MinInt, -1, 1, math.MaxInt} {
		configs = append(configs, api.Config{Fresh: n, Old: n, Need: n, Every: n, Rate: n, Wait: n, Again: n, Open: n, Quiet: n})
	}
	events := []api.Event{tick, hold(net+10, "gus", one), hold(net+11, "gus", one), watch(net+40, 29), watch(0, 0), ignore(net+64, 28), approve(net + 11), reject(net + 11), drop(net + 11), drop(0), saw(api.Echo, net+11, one), saw(api.Arp, net+11, one), saw(-1, 0, one), of(8, net+11)}
	for i, s := range append(wrongStates(), rich(), api.State{}) {
		for k, c := range configs {
			for _, e := range events {
				after, sent, err := ops.Do(c, s, e)
				if err != 0 && (!same(after, s) || len(sent) > 0) {
					t.Errorf("%d, %d: an error changed the state", i, k)
				}
				if e.What != api.Tick && len(sent) > 0 {
					t.Errorf("%d, %d: %+v sent something", i, k, e)
				}
			}
			for _, a := range []api.Addr{0, net + 11, net + 14, lastAddr} {
				ops.Status(c, s, a)
			}
		}
	}
}
