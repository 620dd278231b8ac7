package ops_test

import (
	"reflect"
	"slices"
	"testing"

	"terrier/api"
	"terrier/cases"
	"terrier/config"
	"terrier/held"
	"terrier/ops"
	"terrier/probe"
	"terrier/seen"
	"terrier/sweep"
	"terrier/wire"
)

const (
	lastTick   = 1 << 40
	lastAddr   = api.Addr(0xffffffff)
	net        = api.Addr(0x0a010000)
	maxHolders = 48
	maxSweeps  = 16
	maxKnown   = 96
	maxProbes  = 16
	maxCases   = 16
)

var (
	none  = api.Mac{}
	one   = api.Mac{2, 0, 0, 0, 0, 1}
	two   = api.Mac{2, 0, 0, 0, 0, 2}
	three = api.Mac{0, 0, 0, 0, 0, 3}
)

// conf has numbers that are told apart.
func conf() api.Config {
	return api.Config{Fresh: 10, Old: 20, Need: 2, Every: 15, Rate: 4, Wait: 3, Again: 2, Open: 30, Quiet: 40}
}

// The events, by what they need.
func hold(a api.Addr, owner string, m api.Mac) api.Event {
	return api.Event{What: api.Hold, Holder: api.Holder{Addr: a, Owner: owner, Mac: m}}
}

func of(what api.What, a api.Addr) api.Event {
	return api.Event{What: what, Holder: api.Holder{Addr: a}}
}

func drop(a api.Addr) api.Event    { return of(api.Drop, a) }
func approve(a api.Addr) api.Event { return of(api.Approve, a) }
func reject(a api.Addr) api.Event  { return of(api.Reject, a) }

func watch(base api.Addr, bits int) api.Event {
	return api.Event{What: api.Watch, Block: api.Block{Base: base, Bits: bits}}
}

func ignore(base api.Addr, bits int) api.Event {
	return api.Event{What: api.Ignore, Block: api.Block{Base: base, Bits: bits}}
}

func saw(from api.Source, a api.Addr, m api.Mac) api.Event {
	return api.Event{What: api.Saw, Holder: api.Holder{Addr: a}, Sight: api.Sight{From: from, Mac: m}}
}

var tick = api.Event{What: api.Tick}

// The parts of a state.
func holder(a api.Addr, owner string, m api.Mac) api.Holder {
	return api.Holder{Addr: a, Owner: owner, Mac: m}
}

// known is an address that was seen at ticks, without a station.
func known(a api.Addr, ats ...int) api.Known {
	k := api.Known{Addr: a}
	for _, at := range ats {
		k.Seen = append(k.Seen, api.Sight{From: api.Arp, At: at})
	}
	return k
}

func question(a api.Addr, seq, sent, tries int) api.Probe {
	return api.Probe{Addr: a, ID: int(a % 65536), Seq: seq, Sent: sent, Tries: tries}
}

func open(a api.Addr, raised int, s api.Stage) api.Case {
	return api.Case{Addr: a, Raised: raised, Stage: s}
}

func over(a api.Addr, raised, ended int, s api.Stage) api.Case {
	return api.Case{Addr: a, Raised: raised, Ended: ended, Stage: s}
}

func sweepAt(base api.Addr, bits, due, next int) api.Sweep {
	return api.Sweep{Block: api.Block{Base: base, Bits: bits}, Due: due, Next: next}
}

// packet is a question as it is sent.
func packet(a api.Addr, seq int) wire.Packet {
	return wire.Packet{To: a, ID: int(a % 65536), Seq: seq}
}

// rich is a state with something of each kind, at tick 1000.
func rich() api.State {
	return api.State{
		Now: 1000,
		Seq: 500,
		Holders: []api.Holder{
			holder(net+11, "ann", none), // stale, with a case that was raised
			holder(net+12, "bob", one),  // active, with a case that was cancelled
			holder(net+13, "cat", two),  // planned
			holder(net+14, "dan", none), // stale, with a case that was approved
			holder(net+15, "eve", one),  // stale, with a case that was rejected of late
			holder(net+16, "fay", none), // active, with a case that was approved
		},
		Sweeps: []api.Sweep{
			sweepAt(net+32, 29, 1003, 0),
			sweepAt(net+64, 28, 1001, 9),
		},
		Known: []api.Known{
			known(net+11, 950),
			{Addr: net + 12, Seen: []api.Sight{{From: api.Lease, Mac: one, At: 995}, {From: api.Echo, At: 998}}},
			known(net+14, 930, 940),
			known(net+15, 930),
			known(net+16, 990, 995, 1000),
			known(net+21, 999),
			known(net+22, 985),
		},
		Probes: []api.Probe{
			question(net+70, 498, 1000, 0),
			question(net+21, 499, 999, 0),
			question(net+22, 500, 1000, 1),
		},
		Cases: []api.Case{
			over(net+12, 900, 910, api.Cancelled),
			open(net+14, 985, api.Approved),
			over(net+15, 960, 970, api.Rejected),
			open(net+11, 980, api.Raised),
			open(net+22, 990, api.Raised),
			over(net+23, 800, 830, api.Expired),
			over(net+24, 800, 820, api.Done),
			open(net+16, 981, api.Approved),
		},
	}
}

// with is the rich state, changed.
func with(change func(s *api.State)) api.State {
	s := rich()
	change(&s)
	return s
}

// right tells whether a state is valid.
func right(s api.State) bool {
	return s.Now >= 0 && s.Now <= lastTick && s.Seq >= 0 && s.Seq <= 65535 &&
		held.Right(s.Holders) && sweep.Right(s.Sweeps) && seen.Right(s.Known) && probe.Right(s.Probes) && cases.Right(s.Cases)
}

// ahead tells whether a case was raised later than now: as it ends now, it would have ended before it was raised.
func ahead(s api.State) bool {
	return slices.ContainsFunc(s.Cases, func(x api.Case) bool { return x.Raised > s.Now })
}

// same tells whether two states are alike; lists without elements are.
func same(x, y api.State) bool {
	return x.Now == y.Now && x.Seq == y.Seq && slices.Equal(x.Holders, y.Holders) && slices.Equal(x.Sweeps, y.Sweeps) &&
		slices.EqualFunc(x.Known, y.Known, sameKnown) && slices.Equal(x.Probes, y.Probes) && slices.Equal(x.Cases, y.Cases)
}

func sameKnown(x, y api.Known) bool { return x.Addr == y.Addr && slices.Equal(x.Seen, y.Seen) }

// roomy is a copy of a list with room behind it, where elements stand that nobody may touch.
func roomy[T any](list []T, trap T) []T {
	row := append(make([]T, 0, len(list)+3), list...)
	return append(row, trap, trap, trap)[:len(list)]
}

func roomyState(s api.State) api.State {
	s.Holders = roomy(s.Holders, holder(77, "trap", one))
	s.Sweeps = roomy(s.Sweeps, sweepAt(77, 32, 77, 0))
	s.Known = roomy(s.Known, api.Known{Addr: 77})
	for i, k := range s.Known {
		s.Known[i].Seen = roomy(k.Seen, api.Sight{At: 77})
	}
	s.Probes = roomy(s.Probes, question(77, 77, 77, 7))
	s.Cases = roomy(s.Cases, open(77, 77, api.Raised))
	return s
}

// whole is a copy of a state, with what stands in the room behind its lists.
func whole(s api.State) api.State {
	s.Holders = all(s.Holders)
	s.Sweeps = all(s.Sweeps)
	s.Known = all(s.Known)
	for i, k := range s.Known {
		s.Known[i].Seen = all(k.Seen)
	}
	s.Probes = all(s.Probes)
	s.Cases = all(s.Cases)
	return s
}

func all[T any](list []T) []T { return slices.Clone(list[:cap(list)]) }

// scribble writes over all of a state's lists, and over the room behind them.
func scribble(s api.State) {
	for _, k := range s.Known {
		fill(k.Seen, api.Sight{From: 99, At: 99})
	}
	fill(s.Holders, holder(99, "other", three))
	fill(s.Sweeps, sweepAt(99, 32, 99, 99))
	fill(s.Known, api.Known{Addr: 99})
	fill(s.Probes, question(99, 99, 99, 99))
	fill(s.Cases, over(99, 99, 99, 99))
}

func fill[T any](list []T, x T) {
	for i := range list[:cap(list)] {
		list[:cap(list)][i] = x
	}
}

// sharing tells whether two addresses have sightings in the same memory.
func sharing(ks []api.Known) bool {
	for i, k := range ks {
		fill(k.Seen, api.Sight{At: i})
	}
	for i, k := range ks {
		if slices.ContainsFunc(k.Seen[:cap(k.Seen)], func(s api.Sight) bool { return s.At != i }) {
			return true
		}
	}
	return false
}

// checkDo has an event happen twice: both times it does what it should, the state that is given stays as it was, and no answer shares memory with it, or with the other answer.
func checkDo(t *testing.T, c api.Config, s api.State, e api.Event, want api.State, sent []wire.Packet, wantErr api.Errno) {
	t.Helper()
	given := roomyState(s)
	before := whole(given)
	var got [2]api.State
	var packets [2][]wire.Packet
	for i := range got {
		var err api.Errno
		got[i], packets[i], err = ops.Do(c, given, e)
		if err != wantErr || !same(got[i], want) || !slices.Equal(packets[i], sent) {
			t.Fatalf("Do of\n%+v\nin\n%+v\nis\n%+v\n%v %v, want\n%+v\n%v %v", e, s, got[i], packets[i], err, want, sent, wantErr)
		}
	}
	if !reflect.DeepEqual(whole(given), before) {
		t.Fatalf("Do of %+v changed\n%+v to\n%+v", e, before, given)
	}
	if right(s) && !ahead(s) && !right(got[0]) {
		t.Fatalf("Do of %+v in\n%+v\nis not valid:\n%+v", e, s, got[0])
	}
	scribble(got[0])
	fill(packets[0], wire.Packet{To: 99})
	if !reflect.DeepEqual(whole(given), before) {
		t.Fatalf("the state and Do of %+v share memory", e)
	}
	scribble(given)
	if !same(got[1], want) || !slices.Equal(packets[1], sent) {
		t.Fatalf("what Do of %+v is shares memory with another state", e)
	}
	if sharing(got[1].Known) {
		t.Fatalf("two lists of Do of %+v share memory", e)
	}
}

// checkChange is for the events but ticks: nothing is sent.
func checkChange(t *testing.T, s api.State, e api.Event, want api.State) {
	t.Helper()
	checkDo(t, conf(), s, e, want, nil, 0)
}

// checkError is for an event that leaves the state as it was.
func checkError(t *testing.T, s api.State, e api.Event, want api.Errno) {
	t.Helper()
	checkDo(t, conf(), s, e, s, nil, want)
}

func TestTheStatesOfTheTestsAreValid(t *testing.T) {
	if config.Right(conf()) != -1 {
		t.Error("the configuration is not valid")
	}
	if !right(rich()) || ahead(rich()) {
		t.Error("the rich state is not valid")
	}
}

// P18.1

func checkStatus(t *testing.T, c api.Config, s api.State, a api.Addr, want api.Status) {
	t.Helper()
	given := roomyState(s)
	before := whole(given)
	for range 2 {
		if got := ops.Status(c, given, a); got != want {
			t.Errorf("Status of %d in %+v is %d, want %d", a, s, got, want)
		}
	}
	if !reflect.DeepEqual(whole(given), before) {
		t.Errorf("Status changed %+v to %+v", before, given)
	}
}

func TestStatus(t *testing.T) {
	tests := []struct {
		a    api.Addr
		want api.Status
	}{
		{net + 11, api.Stale}, {net + 12, api.Active}, {net + 13, api.Planned}, {net + 14, api.Stale}, {net + 15, api.Stale}, {net + 16, api.Active},
		{net + 21, api.Rogue}, {net + 22, api.Free}, {net + 23, api.Free}, {net + 10, api.Free}, {0, api.Free}, {lastAddr, api.Free},
	}
	for _, x := range tests {
		checkStatus(t, conf(), rich(), x.a, x.want)
		checkStatus(t, conf(), api.State{}, x.a, api.Free)
	}
}

// The holder, the sightings and Now are each the state's own, and the configuration is the one that is given.
func TestStatusByEachPart(t *testing.T) {
	s := with(func(s *api.State) { s.Holders = nil })
	checkStatus(t, conf(), s, net+11, api.Free)
	checkStatus(t, conf(), s, net+12, api.Rogue)
	s = with(func(s *api.State) { s.Known = nil })
	checkStatus(t, conf(), s, net+11, api.Planned)
	checkStatus(t, conf(), s, net+21, api.Free)
	s = with(func(s *api.State) { s.Holders[1].Mac = two })
	checkStatus(t, conf(), s, net+12, api.Rogue)
	s = with(func(s *api.State) { s.Known[1].Seen[1].Mac = two })
	checkStatus(t, conf(), s, net+12, api.Conflict)
	for now, want := range map[int]api.Status{969: api.Planned, 970: api.Stale, 949: api.Stale, 950: api.Planned, 959: api.Planned} {
		checkStatus(t, conf(), with(func(s *api.State) { s.Now = now }), net+11, want)
	}
	c := conf()
	c.Old = 51
	checkStatus(t, c, rich(), net+11, api.Planned)
	c = conf()
	c.Need = 3
	checkStatus(t, c, rich(), net+12, api.Planned)
	c = conf()
	c.Fresh = 2
	checkStatus(t, c, rich(), net+21, api.Rogue)
	checkStatus(t, c, rich(), net+12, api.Planned)
	c.Fresh = 1
	checkStatus(t, c, rich(), net+21, api.Free)
}

// Neither cases nor questions nor sweeps say anything of a status.
func TestStatusByNothingElse(t *testing.T) {
	s := rich()
	for _, change := range []func(s *api.State){
		func(s *api.State) { s.Cases = nil },
		func(s *api.State) { s.Probes = nil },
		func(s *api.State) { s.Sweeps = nil },
		func(s *api.State) { s.Seq = 0 },
	} {
		for a := net; a < net+90; a++ {
			checkStatus(t, conf(), with(change), a, ops.Status(conf(), s, a))
		}
	}
}
