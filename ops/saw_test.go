package ops_test

import (
	"math"
	"slices"
	"testing"

	"terrier/api"
	"terrier/ops"
	"terrier/wire"
)

// do has an event happen that is to do what it should.
func do(t *testing.T, s api.State, e api.Event) (api.State, []wire.Packet) {
	t.Helper()
	after, sent, err := ops.Do(conf(), s, e)
	if err != 0 {
		t.Fatalf("Do of %+v in %+v: %v", e, s, err)
	}
	return after, sent
}

// others are the sources that need no question.
var others = []api.Source{api.Arp, api.Neighbour, api.Lease}

// seenAt is the list of known addresses with one more sighting.
func seenAt(ks []api.Known, a api.Addr, x api.Sight) []api.Known {
	i, found := slices.BinarySearchFunc(ks, a, func(k api.Known, a api.Addr) int { return int(k.Addr) - int(a) })
	if !found {
		ks = slices.Insert(ks, i, api.Known{Addr: a})
	}
	ss := append(slices.Clone(ks[i].Seen), x)
	ks[i].Seen = ss[max(0, len(ss)-8):]
	return ks
}

// cancelOf ends the case of an address that goes on, if there is one.
func cancelOf(s *api.State, a api.Addr) {
	for i, x := range s.Cases {
		if x.Addr == a && (x.Stage == api.Raised || x.Stage == api.Approved) {
			s.Cases[i].Stage, s.Cases[i].Ended = api.Cancelled, s.Now
		}
	}
}

// Each source but Echo, with stations and without; of addresses that have cases that go on, that have ended, and none.
func TestSaw(t *testing.T) {
	for _, from := range others {
		for _, m := range []api.Mac{none, one, three, {255, 255, 255, 255, 255, 255}} {
			for _, a := range []api.Addr{0, net + 11, net + 12, net + 13, net + 14, net + 15, net + 16, net + 21, net + 22, net + 23, net + 24, net + 70, lastAddr} {
				checkChange(t, rich(), saw(from, a, m), with(func(s *api.State) {
					s.Known = seenAt(s.Known, a, api.Sight{From: from, Mac: m, At: 1000})
					cancelOf(s, a)
				}))
			}
		}
	}
}

// Written out: one that was seen before and has a case, and one that was never seen and has none.
func TestSawInFull(t *testing.T) {
	s := api.State{
		Now:   9,
		Known: []api.Known{known(5, 1, 2)},
		Cases: []api.Case{over(5, 1, 2, api.Expired), open(6, 3, api.Raised), open(5, 3, api.Approved)},
	}
	checkChange(t, s, saw(api.Lease, 5, one), api.State{
		Now: 9,
		Known: []api.Known{{Addr: 5, Seen: []api.Sight{
			{From: api.Arp, At: 1}, {From: api.Arp, At: 2}, {From: api.Lease, Mac: one, At: 9},
		}}},
		Cases: []api.Case{over(5, 1, 2, api.Expired), open(6, 3, api.Raised), over(5, 3, 9, api.Cancelled)},
	})
	want := s
	want.Known = []api.Known{{Addr: 4, Seen: []api.Sight{{From: api.Neighbour, Mac: two, At: 9}}}, known(5, 1, 2)}
	checkChange(t, s, saw(api.Neighbour, 4, two), want)
}

// Now takes the place of the time that a sighting comes with.
func TestSawAtNow(t *testing.T) {
	for _, at := range []int{math.MinInt, -1, 0, 1, 999, 1000, 1001, lastTick, math.MaxInt} {
		for _, from := range others {
			e := saw(from, net+12, two)
			e.Sight.At = at
			checkChange(t, rich(), e, with(func(s *api.State) {
				s.Known = seenAt(s.Known, net+12, api.Sight{From: from, Mac: two, At: 1000})
			}))
		}
		e := saw(api.Echo, net+70, one)
		e.Sight.At = at
		checkChange(t, rich(), e, with(func(s *api.State) {
			s.Known = seenAt(s.Known, net+70, api.Sight{From: api.Echo, At: 1000})
			s.Probes = slices.Delete(s.Probes, 0, 1)
		}))
	}
	for _, now := range []int{0, 1, lastTick - 1, lastTick} {
		s := api.State{Now: now}
		checkChange(t, s, saw(api.Arp, 7, one), api.State{Now: now, Known: []api.Known{{Addr: 7, Seen: []api.Sight{{From: api.Arp, Mac: one, At: now}}}}})
	}
}

// An answer to each of several questions: that one is removed, and no station is kept.
func TestSawEcho(t *testing.T) {
	for _, m := range []api.Mac{none, one, {255, 255, 255, 255, 255, 255}} {
		for i, p := range rich().Probes {
			checkChange(t, rich(), saw(api.Echo, p.Addr, m), with(func(s *api.State) {
				s.Probes = slices.Delete(s.Probes, i, i+1)
				s.Known = seenAt(s.Known, p.Addr, api.Sight{From: api.Echo, At: 1000})
				cancelOf(s, p.Addr)
			}))
		}
	}
	// Only the one question.
	s := with(func(s *api.State) { s.Probes = s.Probes[1:2] })
	checkChange(t, s, saw(api.Echo, net+21, one), with(func(s *api.State) {
		s.Probes = nil
		s.Known = seenAt(s.Known, net+21, api.Sight{From: api.Echo, At: 1000})
	}))
}

// The other sources leave the question to the address, whatever its numbers are.
func TestSawLeavesQuestions(t *testing.T) {
	for _, from := range others {
		after, _ := do(t, rich(), saw(from, net+21, one))
		if !slices.Equal(after.Probes, rich().Probes) {
			t.Errorf("the questions are %v", after.Probes)
		}
	}
}

// Of 16 questions, the one at any place.
func TestSawEchoOfManyQuestions(t *testing.T) {
	s := rich()
	s.Probes = nil
	for i := range maxProbes {
		s.Probes = append(s.Probes, question(net+api.Addr(i*5%16), i, 990+i%3, i%9))
	}
	for i, p := range s.Probes {
		after := s
		after.Probes = slices.Delete(slices.Clone(s.Probes), i, i+1)
		after.Known = seenAt(slices.Clone(s.Known), p.Addr, api.Sight{From: api.Echo, At: 1000})
		after.Cases = slices.Clone(s.Cases)
		cancelOf(&after, p.Addr)
		checkChange(t, s, saw(api.Echo, p.Addr, two), after)
	}
}

// With a question to another address, with several, and with none; the case of 11 goes on.
func TestSawEchoErrors(t *testing.T) {
	for _, a := range []api.Addr{0, net + 11, net + 12, net + 23, net + 71, net + 65536 + 21, lastAddr} {
		checkError(t, rich(), saw(api.Echo, a, none), api.ErrUnknown)
		checkError(t, rich(), saw(api.Echo, a, one), api.ErrUnknown)
		s := with(func(s *api.State) { s.Probes = nil })
		checkError(t, s, saw(api.Echo, a, one), api.ErrUnknown)
		s = with(func(s *api.State) { s.Probes = s.Probes[:1] })
		checkError(t, s, saw(api.Echo, a, one), api.ErrUnknown)
		checkError(t, api.State{}, saw(api.Echo, a, one), api.ErrUnknown)
	}
}

func TestSawFromNoSource(t *testing.T) {
	for _, from := range []api.Source{math.MinInt, -2, -1, 4, 5, 256, 1 << 32, 1<<32 + 1, math.MaxInt} {
		for _, a := range []api.Addr{net + 10, net + 11, net + 21, net + 70} {
			checkError(t, rich(), saw(from, a, one), api.ErrArgument)
			checkError(t, api.State{}, saw(from, a, one), api.ErrArgument)
		}
	}
}

// A sighting that is ahead of Now is the last one: the question of an echo stays then, and so does the case.
func TestSawBehindALaterSighting(t *testing.T) {
	for _, ahead := range []int{1, 2, lastTick, math.MaxInt - 1000} {
		s := with(func(s *api.State) {
			s.Known[0].Seen[0].At = 1000 + ahead
			s.Probes[0] = question(net+11, 3, 990, 0)
		})
		for _, from := range []api.Source{api.Echo, api.Arp, api.Neighbour, api.Lease} {
			checkError(t, s, saw(from, net+11, one), api.ErrRange)
		}
		checkError(t, s, saw(4, net+11, one), api.ErrArgument)
		// Without the question, that comes first.
		s.Probes = nil
		checkError(t, s, saw(api.Echo, net+11, one), api.ErrUnknown)
	}
}

// manyKnown are n addresses that were seen, two apart.
func manyKnown(n, at int) []api.Known {
	var ks []api.Known
	for i := range n {
		ks = append(ks, known(net+api.Addr(2*i), at))
	}
	return ks
}

func TestSawOfAFullList(t *testing.T) {
	s := api.State{
		Now:    1000,
		Known:  manyKnown(maxKnown, 1000),
		Probes: []api.Probe{question(net+1, 1, 999, 0), question(net+2, 2, 999, 0)},
		Cases:  []api.Case{open(net+1, 980, api.Raised)},
	}
	for _, from := range []api.Source{api.Echo, api.Arp, api.Neighbour, api.Lease} {
		checkError(t, s, saw(from, net+1, one), api.ErrFull)
	}
	checkError(t, s, saw(4, net+1, one), api.ErrArgument)
	checkError(t, s, saw(api.Echo, net+3, one), api.ErrUnknown)
	// Of an address that is known already there is room for one more sighting.
	want := s
	want.Known = seenAt(slices.Clone(s.Known), net+2, api.Sight{From: api.Echo, At: 1000})
	want.Probes = s.Probes[:1]
	checkChange(t, s, saw(api.Echo, net+2, one), want)
	less := s
	less.Known = slices.Delete(slices.Clone(s.Known), 40, 41)
	want = less
	want.Known = seenAt(slices.Clone(less.Known), net+1, api.Sight{From: api.Arp, Mac: one, At: 1000})
	want.Cases = []api.Case{over(net+1, 980, 1000, api.Cancelled)}
	checkChange(t, less, saw(api.Arp, net+1, one), want)
}

// The last eight sightings are kept.
func TestSawOften(t *testing.T) {
	s := api.State{Now: 1000, Known: []api.Known{known(5, 992, 993, 994, 995, 996, 997, 998)}}
	after := func(ats ...int) api.State { return api.State{Now: 1000, Known: []api.Known{known(5, ats...)}} }
	checkChange(t, s, saw(api.Arp, 5, none), after(992, 993, 994, 995, 996, 997, 998, 1000))
	s, _ = do(t, s, saw(api.Arp, 5, none))
	checkChange(t, s, saw(api.Arp, 5, none), after(993, 994, 995, 996, 997, 998, 1000, 1000))
}

// The same sighting of two addresses makes two lists that share nothing.
func TestSawTwoAddresses(t *testing.T) {
	s, _ := do(t, api.State{Now: 5}, saw(api.Arp, 1, one))
	s, _ = do(t, s, saw(api.Arp, 2, one))
	if len(s.Known) != 2 || sharing(s.Known) {
		t.Errorf("the addresses are %v", s.Known)
	}
}
