package ops_test

import (
	"math"
	"slices"
	"strconv"
	"testing"

	"terrier/api"
)

// manyHolders are n holders, two addresses apart.
func manyHolders(n int) []api.Holder {
	var hs []api.Holder
	for i := range n {
		hs = append(hs, holder(net+api.Addr(2*i), "o"+strconv.Itoa(i), none))
	}
	return hs
}

// manySweeps are n sweeps of four addresses, eight apart.
func manySweeps(n, due int) []api.Sweep {
	var ss []api.Sweep
	for i := range n {
		ss = append(ss, sweepAt(net+api.Addr(8*i), 30, due, 0))
	}
	return ss
}

func TestHold(t *testing.T) {
	for i, a := range map[int]api.Addr{0: net + 10, 6: net + 17} {
		for _, m := range []api.Mac{none, one, three, {1, 2, 3, 4, 5, 6}} {
			checkChange(t, rich(), hold(a, "gus", m), with(func(s *api.State) {
				s.Holders = slices.Insert(s.Holders, i, holder(a, "gus", m))
			}))
		}
	}
	checkChange(t, api.State{}, hold(0, "a", none), api.State{Holders: []api.Holder{holder(0, "a", none)}})
	checkChange(t, api.State{}, hold(lastAddr, "abc45678", one), api.State{Holders: []api.Holder{holder(lastAddr, "abc45678", one)}})
	full := api.State{Holders: manyHolders(maxHolders)}
	checkChange(t, api.State{Holders: manyHolders(maxHolders - 1)}, hold(net+94, "o47", none), full)
}

// An address of which something is known, or that has a case, or a question, may be held; they stay.
func TestHoldLeavesTheOtherLists(t *testing.T) {
	for _, a := range []api.Addr{net + 21, net + 22, net + 23, net + 70, net + 33} {
		checkChange(t, rich(), hold(a, "gus", none), with(func(s *api.State) {
			s.Holders = append(s.Holders, holder(a, "gus", none))
		}))
	}
}

func TestHoldErrors(t *testing.T) {
	for _, owner := range []string{"", "Ann", "an n", "abcdefghi", "\u00e4", "a-b", "a\x00"} {
		checkError(t, rich(), hold(net+10, owner, none), api.ErrArgument)
		checkError(t, rich(), hold(net+11, owner, none), api.ErrArgument)
		checkError(t, api.State{}, hold(net+10, owner, none), api.ErrArgument)
		checkError(t, api.State{Holders: manyHolders(maxHolders)}, hold(net, owner, none), api.ErrArgument)
	}
	for _, h := range rich().Holders {
		checkError(t, rich(), hold(h.Addr, "gus", none), api.ErrTaken)
		checkError(t, rich(), hold(h.Addr, h.Owner, h.Mac), api.ErrTaken)
	}
	full := api.State{Holders: manyHolders(maxHolders)}
	checkError(t, full, hold(net+2, "gus", none), api.ErrTaken)
	checkError(t, full, hold(net+1, "gus", none), api.ErrFull)
	checkError(t, full, hold(net+1, "Gus", none), api.ErrArgument)
}

func TestDrop(t *testing.T) {
	// The case of 11 goes on, that of 12 has ended, 13 has none, that of 14 was approved, that of 15 was rejected.
	cancelled := map[int]int{0: 3, 3: 1, 5: 7}
	for i, h := range rich().Holders {
		checkChange(t, rich(), drop(h.Addr), with(func(s *api.State) {
			s.Holders = slices.Delete(s.Holders, i, i+1)
			if k, ok := cancelled[i]; ok {
				s.Cases[k].Stage, s.Cases[k].Ended = api.Cancelled, 1000
			}
		}))
	}
}

// Of several cases of an address, only the one that goes on is cancelled.
func TestDropWithSeveralCases(t *testing.T) {
	s := api.State{
		Now:     1000,
		Holders: []api.Holder{holder(5, "ann", none)},
		Cases: []api.Case{
			over(5, 700, 710, api.Expired), over(5, 720, 730, api.Rejected), over(5, 740, 750, api.Cancelled), over(5, 760, 770, api.Done),
			open(5, 800, api.Raised), over(5, 780, 790, api.Expired), open(6, 800, api.Raised),
		},
	}
	for _, stage := range []api.Stage{api.Raised, api.Approved} {
		s.Cases[4].Stage = stage
		want := s
		want.Holders = nil
		want.Cases = slices.Clone(s.Cases)
		want.Cases[4] = over(5, 800, 1000, api.Cancelled)
		checkChange(t, s, drop(5), want)
	}
	s.Cases = slices.Delete(s.Cases, 4, 5)
	want := s
	want.Holders = nil
	checkChange(t, s, drop(5), want)
}

// The case of an address without a holder goes on: that of 22 does.
func TestDropErrors(t *testing.T) {
	for _, a := range []api.Addr{0, net, net + 10, net + 17, net + 21, net + 22, net + 23, net + 70, lastAddr} {
		checkError(t, rich(), drop(a), api.ErrUnknown)
		checkError(t, api.State{}, drop(a), api.ErrUnknown)
	}
}

func TestWatch(t *testing.T) {
	for _, x := range []struct{ i, bits, at int }{{0, 32, 31}, {0, 27, 0}, {1, 29, 40}, {1, 32, 63}, {2, 32, 80}, {2, 25, 128}, {2, 24, 256}} {
		base := net + api.Addr(x.at)
		checkChange(t, rich(), watch(base, x.bits), with(func(s *api.State) {
			s.Sweeps = slices.Insert(s.Sweeps, x.i, sweepAt(base, x.bits, 1000, 0))
		}))
	}
	for _, now := range []int{0, 1, lastTick - 1, lastTick} {
		checkChange(t, api.State{Now: now}, watch(8, 30), api.State{Now: now, Sweeps: []api.Sweep{sweepAt(8, 30, now, 0)}})
	}
	checkChange(t, api.State{Sweeps: manySweeps(maxSweeps-1, 0)}, watch(net+120, 30), api.State{Sweeps: manySweeps(maxSweeps, 0)})
}

func TestWatchErrors(t *testing.T) {
	full := api.State{Sweeps: manySweeps(maxSweeps, 0)}
	for _, s := range []api.State{rich(), {}, full} {
		for _, bits := range []int{math.MinInt, -1, 33, math.MaxInt} {
			checkError(t, s, watch(net+80, bits), api.ErrArgument)
			checkError(t, s, watch(0, bits), api.ErrArgument)
		}
		checkError(t, s, watch(net+33, 29), api.ErrArgument)
		checkError(t, s, watch(net+1, 0), api.ErrArgument)
		checkError(t, s, watch(net, 23), api.ErrRange)
		checkError(t, s, watch(0, 0), api.ErrRange)
	}
	for _, x := range []struct{ at, bits int }{{32, 29}, {32, 30}, {39, 32}, {32, 28}, {64, 28}, {79, 32}, {0, 24}} {
		checkError(t, rich(), watch(net+api.Addr(x.at), x.bits), api.ErrOverlap)
	}
	checkError(t, full, watch(net+3, 32), api.ErrOverlap)
	checkError(t, full, watch(net+4, 32), api.ErrFull)
	checkError(t, full, watch(net+256, 24), api.ErrFull)
}

func TestIgnore(t *testing.T) {
	for i, x := range rich().Sweeps {
		checkChange(t, rich(), ignore(x.Block.Base, x.Block.Bits), with(func(s *api.State) {
			s.Sweeps = slices.Delete(s.Sweeps, i, i+1)
		}))
	}
	full := manySweeps(maxSweeps, 9)
	for i, x := range full {
		checkChange(t, api.State{Sweeps: full}, ignore(x.Block.Base, 30), api.State{Sweeps: slices.Delete(slices.Clone(full), i, i+1)})
	}
}

func TestIgnoreErrors(t *testing.T) {
	for _, x := range []struct{ at, bits int }{{32, 28}, {32, 30}, {32, 32}, {33, 29}, {40, 29}, {64, 29}, {64, 27}, {64, -1}, {64, 33}, {64, 28 + 1<<32}, {0, 0}} {
		checkError(t, rich(), ignore(net+api.Addr(x.at), x.bits), api.ErrUnknown)
	}
	checkError(t, api.State{}, ignore(0, 0), api.ErrUnknown)
	checkError(t, api.State{}, ignore(net, 33), api.ErrUnknown)
}

// The case of 11 and that of 22, which has no holder, were raised.
func TestApproveAndReject(t *testing.T) {
	for i, a := range map[int]api.Addr{3: net + 11, 4: net + 22} {
		checkChange(t, rich(), approve(a), with(func(s *api.State) { s.Cases[i].Stage = api.Approved }))
		checkChange(t, rich(), reject(a), with(func(s *api.State) {
			s.Cases[i].Stage, s.Cases[i].Ended = api.Rejected, 1000
		}))
	}
	for _, now := range []int{0, 7, lastTick} {
		s := api.State{Now: now, Cases: []api.Case{open(5, 0, api.Raised)}}
		checkChange(t, s, approve(5), api.State{Now: now, Cases: []api.Case{open(5, 0, api.Approved)}})
		checkChange(t, s, reject(5), api.State{Now: now, Cases: []api.Case{over(5, 0, now, api.Rejected)}})
	}
}

// One that was approved is not raised any more, and none goes on that has ended.
func TestApproveAndRejectErrors(t *testing.T) {
	for _, of := range []func(a api.Addr) api.Event{approve, reject} {
		checkError(t, rich(), of(net+14), api.ErrState)
		checkError(t, rich(), of(net+16), api.ErrState)
		for _, a := range []api.Addr{net + 12, net + 15, net + 23, net + 24, net + 13, net + 21, 0, lastAddr} {
			checkError(t, rich(), of(a), api.ErrUnknown)
		}
		checkError(t, api.State{}, of(net+11), api.ErrUnknown)
	}
}

// What an event does not need does not count, whatever it is.
func TestOtherPartsOfEvents(t *testing.T) {
	events := []api.Event{
		hold(net+10, "gus", one), drop(net + 11), watch(net+40, 29), ignore(net+32, 29), approve(net + 11), reject(net + 11), saw(api.Arp, net+11, one),
	}
	for _, e := range events {
		want, _ := do(t, rich(), e)
		if e.What != api.Hold {
			e.Holder.Owner, e.Holder.Mac = "No Owner", three
		}
		if e.What == api.Watch || e.What == api.Ignore {
			e.Holder.Addr = net + 11
		} else {
			e.Block = api.Block{Base: net + 32, Bits: 29}
		}
		if e.What != api.Saw {
			e.Sight = api.Sight{From: 9, Mac: two, At: 99}
		}
		checkChange(t, rich(), e, want)
	}
}

// Events of no kind: whatever the state and the other parts are.
func TestEventsOfNoKind(t *testing.T) {
	for _, what := range []api.What{math.MinInt, -1 << 32, -8, -2, -1, 8, 9, 10, 255, 256, 257, 1 << 32, 1<<32 + 1, math.MaxInt} {
		for _, e := range []api.Event{of(what, net+11), hold(net+10, "gus", none), watch(net+40, 29), saw(api.Arp, net+11, one), {}} {
			e.What = what
			checkError(t, rich(), e, api.ErrArgument)
			checkError(t, api.State{}, e, api.ErrArgument)
			checkError(t, api.State{Now: lastTick, Seq: 65535}, e, api.ErrArgument)
		}
	}
}

// The kinds by their numbers, as events are kept by them.
func TestKindsByNumber(t *testing.T) {
	for i, what := range []api.What{api.Tick, api.Hold, api.Drop, api.Watch, api.Ignore, api.Saw, api.Approve, api.Reject, api.Whats} {
		if int(what) != i {
			t.Errorf("%d is %d", i, what)
		}
	}
}
