package ops_test

import (
	"math"
	"slices"
	"testing"

	"terrier/api"
	"terrier/ops"
)

// checkTick has a tick happen in which nothing is sent.
func checkTick(t *testing.T, c api.Config, s, want api.State) {
	t.Helper()
	checkDo(t, c, s, tick, want, nil, 0)
}

// stale are holders of addresses, and their sightings of tick 900, which are stale at tick 1000.
func stale(as ...api.Addr) ([]api.Holder, []api.Known) {
	var hs []api.Holder
	var ks []api.Known
	for _, a := range as {
		hs = append(hs, holder(a, "ann", none))
		ks = append(ks, known(a, 900))
	}
	return hs, ks
}

// row are n addresses, one behind the other.
func row(a api.Addr, n int) []api.Addr {
	var as []api.Addr
	for i := range n {
		as = append(as, a+api.Addr(i))
	}
	return as
}

// staleState has stale addresses at tick 1000, and cases.
func staleState(as []api.Addr, cs ...api.Case) api.State {
	s := api.State{Now: 1000, Cases: cs}
	s.Holders, s.Known = stale(as...)
	return s
}

// later is a state one tick later, with other cases.
func later(s api.State, cs ...api.Case) api.State {
	s.Now++
	s.Cases = cs
	return s
}

// P18.3, step 1

func TestTickOfNow(t *testing.T) {
	for now, want := range map[int]int{0: 1, 1: 2, 999: 1000, lastTick - 2: lastTick - 1, lastTick - 1: lastTick, lastTick: lastTick} {
		checkTick(t, conf(), api.State{Now: now}, api.State{Now: want})
		checkTick(t, conf(), api.State{Now: now, Seq: 9, Holders: rich().Holders}, api.State{Now: want, Seq: 9, Holders: rich().Holders})
	}
}

// The other parts of the event do not count.
func TestTickWithOtherParts(t *testing.T) {
	for _, e := range []api.Event{hold(net+10, "gus", none), drop(net + 11), watch(net+40, 29), saw(9, net+11, one)} {
		e.What = api.Tick
		want, sent := do(t, rich(), tick)
		checkDo(t, conf(), rich(), e, want, sent, 0)
	}
}

// A case is over 30 ticks after it was raised; only if it was not approved.
func TestTickEndsCases(t *testing.T) {
	s := api.State{Now: 1000, Cases: []api.Case{
		open(1, 970, api.Raised), open(2, 971, api.Raised), open(3, 972, api.Raised), open(4, 0, api.Raised), open(5, 1000, api.Raised), open(6, 1001, api.Raised),
		over(7, 900, 910, api.Rejected), over(1, 900, 910, api.Done), open(9, 2000, api.Raised),
	}}
	checkTick(t, conf(), s, later(s,
		over(1, 970, 1001, api.Expired), over(2, 971, 1001, api.Expired), open(3, 972, api.Raised), over(4, 0, 1001, api.Expired), open(5, 1000, api.Raised), open(6, 1001, api.Raised),
		over(7, 900, 910, api.Rejected), over(1, 900, 910, api.Done), open(9, 2000, api.Raised),
	))
	c := conf()
	c.Open = 1
	s = api.State{Now: 0, Cases: []api.Case{open(1, 0, api.Raised), open(2, 1, api.Raised)}}
	checkTick(t, c, s, later(s, over(1, 0, 1, api.Expired), open(2, 1, api.Raised)))
	s = api.State{Now: lastTick, Cases: []api.Case{open(1, lastTick-1, api.Raised), open(2, lastTick, api.Raised)}}
	checkTick(t, c, s, api.State{Now: lastTick, Cases: []api.Case{over(1, lastTick-1, lastTick, api.Expired), open(2, lastTick, api.Raised)}})
}

// P18.3, step 2

// Its holder goes, and what is known of the address goes, too.
func TestTickGivesBack(t *testing.T) {
	s := staleState([]api.Addr{4, 5, 6}, open(5, 990, api.Approved))
	want := api.State{Now: 1001, Cases: []api.Case{over(5, 990, 1001, api.Done), open(4, 1001, api.Raised), open(6, 1001, api.Raised)}}
	want.Holders, want.Known = stale(4, 6)
	checkTick(t, conf(), s, want)
	// However long ago it was raised.
	s.Cases[0].Raised = 0
	want.Cases[0].Raised = 0
	checkTick(t, conf(), s, want)
}

// How an address is is asked behind the tick: 20 ticks are Old.
func TestTickGivesBackInTime(t *testing.T) {
	for now, want := range map[int]api.Case{
		998: over(5, 990, 999, api.Cancelled), 999: over(5, 990, 1000, api.Done), 1000: over(5, 990, 1001, api.Done), 990: over(5, 990, 991, api.Cancelled),
	} {
		s := api.State{Now: now, Holders: []api.Holder{holder(5, "ann", none)}, Known: []api.Known{known(5, 980)}, Cases: []api.Case{open(5, 990, api.Approved)}}
		after := later(s, want)
		if want.Stage == api.Done {
			after.Holders, after.Known = nil, nil
		}
		checkTick(t, conf(), s, after)
	}
}

// An address that is stale no more, whatever it is: the case is cancelled, and the holder stays.
func TestTickCancels(t *testing.T) {
	sights := func(ms ...api.Mac) []api.Known {
		k := api.Known{Addr: 5}
		for _, m := range ms {
			k.Seen = append(k.Seen, api.Sight{From: api.Arp, Mac: m, At: 1000})
		}
		return []api.Known{k}
	}
	tests := []struct {
		hs   []api.Holder
		ks   []api.Known
		want api.Status
	}{
		{[]api.Holder{holder(5, "ann", none)}, nil, api.Planned},
		{[]api.Holder{holder(5, "ann", none)}, []api.Known{known(5, 990)}, api.Planned},
		{[]api.Holder{holder(5, "ann", none)}, sights(none, one), api.Active},
		{[]api.Holder{holder(5, "ann", two)}, sights(one), api.Rogue},
		{[]api.Holder{holder(5, "ann", one)}, sights(one, two), api.Conflict},
		{nil, nil, api.Free},
		{nil, []api.Known{known(5, 985)}, api.Free},
		{nil, sights(one), api.Rogue},
		{nil, sights(one, two), api.Conflict},
		{[]api.Holder{holder(4, "ann", none), holder(6, "bob", none)}, nil, api.Free},
	}
	for _, x := range tests {
		s := api.State{Now: 1000, Holders: x.hs, Known: x.ks, Cases: []api.Case{over(5, 1, 2, api.Done), open(5, 990, api.Approved)}}
		if got := ops.Status(conf(), s, 5); got != x.want {
			t.Errorf("the test made an address that is %d, not %d", got, x.want)
		}
		checkTick(t, conf(), s, later(s, over(5, 1, 2, api.Done), over(5, 990, 1001, api.Cancelled)))
	}
}

// Without a holder what was known of old is forgotten, and stale it is not.
func TestTickCancelsWithoutAHolder(t *testing.T) {
	s := api.State{Now: 1000, Known: []api.Known{known(5, 900)}, Cases: []api.Case{open(5, 990, api.Approved)}}
	checkTick(t, conf(), s, api.State{Now: 1001, Cases: []api.Case{over(5, 990, 1001, api.Cancelled)}})
}

// Several approved cases of one tick; those of other stages stay.
func TestTickOfSeveralApproved(t *testing.T) {
	s := staleState([]api.Addr{1, 2, 3, 4}, open(3, 980, api.Approved), over(2, 1, 2, api.Done), open(9, 981, api.Approved), open(1, 982, api.Approved), open(2, 983, api.Raised), open(4, 984, api.Approved))
	s.Holders = append(s.Holders, holder(8, "zoe", none))
	s.Cases = append(s.Cases, open(8, 985, api.Approved))
	want := later(s, over(3, 980, 1001, api.Done), over(2, 1, 2, api.Done), over(9, 981, 1001, api.Cancelled), over(1, 982, 1001, api.Done), open(2, 983, api.Raised), over(4, 984, 1001, api.Done), over(8, 985, 1001, api.Cancelled))
	want.Holders = []api.Holder{holder(2, "ann", none), holder(8, "zoe", none)}
	want.Known = []api.Known{known(2, 900)}
	checkTick(t, conf(), s, want)
}

// All that there may be, approved and stale.
func TestTickOfAllApproved(t *testing.T) {
	s := staleState(row(20, maxCases))
	want := api.State{Now: 1001}
	for i := range maxCases {
		a := api.Addr(20 + i*7%16)
		s.Cases = append(s.Cases, open(a, 900+i, api.Approved))
		want.Cases = append(want.Cases, over(a, 900+i, 1001, api.Done))
	}
	checkTick(t, conf(), s, want)
}

// P18.3, step 3

// 20 ticks behind its last sighting an address is stale.
func TestTickRaises(t *testing.T) {
	s := api.State{Holders: []api.Holder{holder(5, "ann", one)}, Known: []api.Known{known(5, 970, 980)}}
	for now, stale := range map[int]bool{980: false, 997: false, 998: false, 999: true, 1000: true, 5000: true, lastTick - 1: true} {
		s.Now = now
		want := later(s)
		if stale {
			want = later(s, open(5, now+1, api.Raised))
		}
		checkTick(t, conf(), s, want)
	}
	s.Now = lastTick
	checkTick(t, conf(), s, api.State{Now: lastTick, Holders: s.Holders, Known: s.Known, Cases: []api.Case{open(5, lastTick, api.Raised)}})
}

// In the order of their addresses, and only those that are stale and have a holder.
func TestTickRaisesInOrder(t *testing.T) {
	s := staleState([]api.Addr{1, 2, 3, 7, lastAddr}, over(9, 1, 2, api.Done))
	s.Holders = slices.Insert(s.Holders, 3, holder(4, "bob", none), holder(5, "cat", none), holder(6, "dan", one))
	s.Known = slices.Insert(s.Known, 3, known(5, 999), known(6, 999, 1000), known(8, 999), known(9, 985))
	slices.SortFunc(s.Known, func(x, y api.Known) int { return int(x.Addr) - int(y.Addr) })
	checkTick(t, conf(), s, later(s, over(9, 1, 2, api.Done),
		open(1, 1001, api.Raised), open(2, 1001, api.Raised), open(3, 1001, api.Raised), open(7, 1001, api.Raised), open(lastAddr, 1001, api.Raised)))
}

// With a case that goes on there is none besides; a no holds for 40 ticks; whatever else has ended does not count.
func TestTickRaisesBesideCases(t *testing.T) {
	s := staleState([]api.Addr{1, 2, 3, 4, 5, 6, 7},
		open(1, 990, api.Raised), over(2, 900, 962, api.Rejected), over(3, 900, 961, api.Rejected), over(4, 900, 1000, api.Expired),
		over(5, 900, 1000, api.Cancelled), over(6, 900, 1000, api.Done), over(7, 900, 1000, api.Rejected))
	checkTick(t, conf(), s, later(s, append(slices.Clone(s.Cases),
		open(3, 1001, api.Raised), open(4, 1001, api.Raised), open(5, 1001, api.Raised), open(6, 1001, api.Raised))...))
	// The next holder is looked at, though there was an error.
	s = staleState([]api.Addr{1, 2}, open(1, 990, api.Raised))
	checkTick(t, conf(), s, later(s, open(1, 990, api.Raised), open(2, 1001, api.Raised)))
}

// More stale holders than there may be cases: the first ones have theirs.
func TestTickRaisesAsManyAsThereIsRoomFor(t *testing.T) {
	for _, n := range []int{15, 16, 17, 18, 48} {
		s := staleState(row(100, n))
		want := later(s)
		for i := range min(n, maxCases) {
			want.Cases = append(want.Cases, open(api.Addr(100+i), 1001, api.Raised))
		}
		checkTick(t, conf(), s, want)
	}
	// Old ones that are over make room, those that ended first ahead of the others; a no that holds makes none.
	s := staleState(row(100, 20))
	for i := range maxCases {
		s.Cases = append(s.Cases, over(api.Addr(200+i), 900, 1000-i, api.Expired))
	}
	s.Cases[3].Stage, s.Cases[15].Stage, s.Cases[9].Stage = api.Rejected, api.Done, api.Cancelled
	want := later(s, s.Cases[3])
	for i := range maxCases - 1 {
		want.Cases = append(want.Cases, open(api.Addr(100+i), 1001, api.Raised))
	}
	checkTick(t, conf(), s, want)
	s.Holders, s.Known = stale(row(100, 2)...)
	want = later(s, append(slices.Clone(s.Cases[:14]), open(100, 1001, api.Raised), open(101, 1001, api.Raised))...)
	checkTick(t, conf(), s, want)
}

// P18.3, step 4

func TestTickForgets(t *testing.T) {
	s := api.State{
		Now:     1000,
		Holders: []api.Holder{holder(1, "ann", none), holder(9, "bob", none)},
		Known: []api.Known{
			known(1, 985), known(2, 980), known(3, 981), known(4, 982), known(5, 983), known(6, 1000), known(7, 900, 950, 990), known(8, 900, 950, 979), known(10, 0), known(11, 1001), known(12, 1002),
		},
	}
	want := later(s)
	want.Known = []api.Known{s.Known[0], known(4, 982), known(5, 983), known(6, 1000), known(7, 900, 950, 990), known(11, 1001)}
	checkTick(t, conf(), s, want)
	c := conf()
	c.Old = 21
	want.Known = slices.Insert(want.Known, 1, known(3, 981))
	checkTick(t, c, s, want)
	c.Old = 10
	want.Known = []api.Known{s.Known[0], known(6, 1000), known(11, 1001)}
	want.Cases = []api.Case{open(1, 1001, api.Raised)}
	checkTick(t, c, s, want)
}

// With a holder nothing is forgotten, however long ago it was, or ahead.
func TestTickForgetsNothingOfHolders(t *testing.T) {
	for _, at := range []int{0, 1, 979, 980, 981, 982, 1000, 1001, 1002, lastTick, math.MaxInt} {
		s := api.State{Now: 1000, Holders: []api.Holder{holder(5, "ann", none)}, Known: []api.Known{known(5, at)}, Cases: []api.Case{open(5, 999, api.Raised)}}
		checkTick(t, conf(), s, later(s, s.Cases...))
		s.Holders = nil
		want := later(s, s.Cases...)
		if at <= 981 || at > 1001 {
			want.Known = nil
		}
		checkTick(t, conf(), s, want)
	}
	// Nor are all holders' addresses known.
	s := api.State{Now: 1000, Holders: []api.Holder{holder(4, "ann", none), holder(5, "bob", none), holder(6, "cat", none)}, Known: []api.Known{known(5, 985)}}
	checkTick(t, conf(), s, later(s))
}

// As many as may be known: all of them forgotten, or none.
func TestTickForgetsMany(t *testing.T) {
	s := api.State{Now: 1000, Known: manyKnown(maxKnown, 982)}
	checkTick(t, conf(), s, later(s))
	s.Known = manyKnown(maxKnown, 981)
	checkTick(t, conf(), s, api.State{Now: 1001})
	s.Holders = manyHolders(maxHolders)
	s.Cases = []api.Case{}
	after, _ := do(t, s, tick)
	if !slices.EqualFunc(after.Known, s.Known[:maxHolders], sameKnown) {
		t.Errorf("%v are known", after.Known)
	}
}

// The order of the steps

// In step 1 the case ends by time, in step 3 another one is raised.
func TestTickEndsAheadOfRaising(t *testing.T) {
	s := staleState([]api.Addr{5}, open(5, 971, api.Raised))
	checkTick(t, conf(), s, later(s, over(5, 971, 1001, api.Expired), open(5, 1001, api.Raised)))
	// It makes room, too: the list is full of cases that go on.
	s = staleState(row(100, 20))
	for i := range maxCases {
		s.Cases = append(s.Cases, open(api.Addr(100+i), 990, api.Raised))
	}
	checkTick(t, conf(), s, later(s, s.Cases...))
	s.Cases = slices.Clone(s.Cases)
	s.Cases[4].Raised = 971
	want := later(s, slices.Delete(slices.Clone(s.Cases), 4, 5)...)
	want.Cases = append(want.Cases, open(104, 1001, api.Raised))
	checkTick(t, conf(), s, want)
}

// In step 2 an address is given back, and its case makes room in step 3 for that of another one.
func TestTickGivesBackAheadOfRaising(t *testing.T) {
	s := staleState(row(100, 17))
	for i := range maxCases {
		s.Cases = append(s.Cases, open(api.Addr(100+i), 990, api.Raised))
	}
	s.Cases[6].Stage = api.Approved
	want := later(s, slices.Delete(slices.Clone(s.Cases), 6, 7)...)
	want.Cases = append(want.Cases, open(116, 1001, api.Raised))
	want.Holders = slices.Delete(slices.Clone(s.Holders), 6, 7)
	want.Known = slices.Delete(slices.Clone(s.Known), 6, 7)
	checkTick(t, conf(), s, want)
	// No case is raised for the one that was given back.
	s = staleState([]api.Addr{5}, open(5, 990, api.Approved))
	checkTick(t, conf(), s, api.State{Now: 1001, Cases: []api.Case{over(5, 990, 1001, api.Done)}})
}

// In step 2 the holder goes, so that in step 4 all is forgotten, or what is not that old stays: never, as the address was stale.
func TestTickGivesBackAheadOfForgetting(t *testing.T) {
	s := api.State{Now: 999, Holders: []api.Holder{holder(5, "ann", none)}, Known: []api.Known{known(4, 981), known(5, 980), known(6, 980)}, Cases: []api.Case{open(5, 990, api.Approved)}}
	want := later(s, over(5, 990, 1000, api.Done))
	want.Holders = nil
	want.Known = []api.Known{known(4, 981)}
	checkTick(t, conf(), s, want)
}

// A case that is cancelled in step 2 may make room in step 3; the address itself is not stale, so it has no new one.
func TestTickCancelsAheadOfRaising(t *testing.T) {
	s := staleState(row(100, 15))
	for i := range maxCases - 1 {
		s.Cases = append(s.Cases, open(api.Addr(101+i), 990, api.Raised))
	}
	s.Cases = append(s.Cases, open(50, 990, api.Approved))
	want := later(s, append(slices.Clone(s.Cases[:15]), open(100, 1001, api.Raised))...)
	checkTick(t, conf(), s, want)
}

// All steps at once.
func TestTickOfTheRichState(t *testing.T) {
	want := with(func(s *api.State) {
		s.Now = 1001
		s.Seq = 504
		s.Holders = slices.Delete(s.Holders, 3, 4)
		s.Known = slices.Delete(s.Known, 2, 3)
		s.Cases[1] = over(net+14, 985, 1001, api.Done)
		s.Cases[7] = over(net+16, 981, 1001, api.Cancelled)
		s.Sweeps[1].Next = 13
		s.Probes = append(s.Probes, question(net+73, 501, 1001, 0), question(net+74, 502, 1001, 0), question(net+75, 503, 1001, 0), question(net+76, 504, 1001, 0))
	})
	sent := packets(net+73, 501, 4)
	checkDo(t, conf(), rich(), tick, want, sent, 0)
}
