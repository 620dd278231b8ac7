package status_test

import (
	"math"
	"slices"
	"testing"

	"terrier/api"
	"terrier/status"
)

const (
	now    = 100
	future = 101
	fresh  = 96 // the first tick that is fresh at now
	aged   = 91 // the first tick that is not too old at now
)

var (
	none  = api.Mac{}
	one   = api.Mac{2, 0, 0, 0, 0, 1}
	two   = api.Mac{2, 0, 0, 0, 0, 2}
	three = api.Mac{2, 0, 0, 0, 0, 3}
)

// withNeed has the ticks fresh and aged be what they say.
func withNeed(need int) api.Config { return api.Config{Fresh: 5, Old: 10, Need: need} }

func holderOf(m api.Mac) *api.Holder { return &api.Holder{Addr: 0x0a000001, Owner: "ann", Mac: m} }

func at(tick int, m api.Mac) api.Sight { return api.Sight{From: api.Arp, Mac: m, At: tick} }

// sights are of one tick.
func sights(tick int, stations ...api.Mac) []api.Sight {
	var ss []api.Sight
	for _, m := range stations {
		ss = append(ss, at(tick, m))
	}
	return ss
}

// checkOf asks twice, with memory ahead of all that is given and behind it, and looks whether all of it stays as it was.
func checkOf(t *testing.T, c api.Config, h *api.Holder, ss []api.Sight, now int, want api.Status) {
	t.Helper()
	memory := slices.Concat(sights(now, three), ss, sights(now, three, two))
	before := slices.Clone(memory)
	given := memory[1 : 1+len(ss)]
	var holder *api.Holder
	var holders [3]api.Holder
	if h != nil {
		holders = [3]api.Holder{*holderOf(three), *h, *holderOf(two)}
		holder = &holders[1]
	}
	held := holders
	for range 2 {
		if got := status.Of(c, holder, given, now); got != want {
			t.Fatalf("Of(%+v, %+v, %v, %d) = %q, want %q", c, h, ss, now, status.Name(got), status.Name(want))
		}
	}
	if !slices.Equal(memory, before) {
		t.Fatalf("Of(%+v, %+v, %v, %d) has the sightings be %v", c, h, ss, now, memory)
	}
	if holders != held {
		t.Fatalf("Of(%+v, %+v, %v, %d) has the holder be %+v", c, h, ss, now, holders)
	}
}

// P13.1

func TestEachStatus(t *testing.T) {
	c := withNeed(2)
	checkOf(t, c, nil, nil, now, api.Free)
	checkOf(t, c, nil, []api.Sight{}, now, api.Free)
	checkOf(t, c, nil, sights(fresh-1, one), now, api.Free)
	checkOf(t, c, holderOf(one), nil, now, api.Planned)
	checkOf(t, c, holderOf(one), sights(fresh, one), now, api.Planned)
	checkOf(t, c, holderOf(one), sights(fresh, one, one), now, api.Active)
	checkOf(t, c, holderOf(one), sights(aged-1, one), now, api.Stale)
	checkOf(t, c, holderOf(one), sights(fresh, two), now, api.Rogue)
	checkOf(t, c, nil, sights(fresh, one), now, api.Rogue)
	checkOf(t, c, holderOf(one), sights(fresh, one, two), now, api.Conflict)
	checkOf(t, c, nil, sights(fresh, one, two), now, api.Conflict)
}

// Of each two statuses that can hold at once, the earlier one is returned. In each row these two hold, and beside them only Planned, which always does, and Rogue, where a conflict without a holder brings it along.
func TestTheEarlierOfTwo(t *testing.T) {
	anybody := holderOf(none)
	ahead := at(future, none)
	for _, x := range []struct {
		need          int
		h             *api.Holder
		ss            []api.Sight
		earlier, late api.Status
	}{
		{3, holderOf(one), sights(now, one, two), api.Conflict, api.Rogue},
		{3, nil, sights(now, one, two), api.Conflict, api.Free},
		{2, anybody, sights(now, one, two), api.Conflict, api.Active},
		{3, anybody, append(sights(now, one, two), ahead), api.Conflict, api.Stale},
		{3, anybody, sights(now, one, two), api.Conflict, api.Planned},
		{3, nil, sights(now, one), api.Rogue, api.Free},
		{1, holderOf(one), sights(now, two), api.Rogue, api.Active},
		{3, holderOf(one), append(sights(now, two), ahead), api.Rogue, api.Stale},
		{3, holderOf(one), sights(now, two), api.Rogue, api.Planned},
		{0, nil, nil, api.Free, api.Active},
		{3, nil, sights(aged-1, one), api.Free, api.Stale},
		{3, nil, nil, api.Free, api.Planned},
		{1, holderOf(one), append(sights(now, one), ahead), api.Active, api.Stale},
		{0, holderOf(one), sights(aged-1, one), api.Active, api.Stale},
		{1, holderOf(one), sights(now, one), api.Active, api.Planned},
		{3, holderOf(one), sights(aged-1, one), api.Stale, api.Planned},
	} {
		c := withNeed(x.need)
		all := holds(c, x.h, x.ss, now)
		for _, s := range order {
			brought := s == api.Planned || s == api.Rogue && x.earlier == api.Conflict && x.h == nil
			if wanted := s == x.earlier || s == x.late; wanted && !all[s] || !wanted && !brought && all[s] {
				t.Errorf("%q and %q: of %q it is %v that it holds", status.Name(x.earlier), status.Name(x.late), status.Name(s), all[s])
			}
		}
		checkOf(t, c, x.h, x.ss, now, x.earlier)
	}
}

// Where Old is below Fresh, which is not valid, the last sighting can be fresh, and too old all the same.
func TestTheEarlierOfTwoIfOldIsBelowFresh(t *testing.T) {
	c := api.Config{Fresh: 10, Old: 5, Need: 2}
	checkOf(t, c, holderOf(none), sights(now-5, one, two), now, api.Conflict)
	checkOf(t, c, holderOf(one), sights(now-5, two), now, api.Rogue)
	checkOf(t, c, nil, sights(now-5, one), now, api.Rogue)
	checkOf(t, c, holderOf(one), sights(now-5, one, one), now, api.Active)
	checkOf(t, c, holderOf(one), sights(now-5, one), now, api.Stale)
	checkOf(t, c, holderOf(one), sights(now-4, one), now, api.Planned)
}

func TestHolders(t *testing.T) {
	c := withNeed(1)
	for _, x := range []struct {
		ss                            []api.Sight
		nobody, anybody, first, third api.Status
	}{
		{nil, api.Free, api.Planned, api.Planned, api.Planned},
		{sights(now, none), api.Rogue, api.Active, api.Active, api.Active},
		{sights(now, one), api.Rogue, api.Active, api.Active, api.Rogue},
		{sights(now, two), api.Rogue, api.Active, api.Rogue, api.Rogue},
		{sights(now, one, two), api.Conflict, api.Conflict, api.Conflict, api.Conflict},
		{sights(fresh-1, one), api.Free, api.Planned, api.Planned, api.Planned},
		{sights(fresh-1, two), api.Free, api.Planned, api.Planned, api.Planned},
		{sights(fresh-1, one, two), api.Free, api.Planned, api.Planned, api.Planned},
		{sights(aged-1, two), api.Free, api.Stale, api.Stale, api.Stale},
		{sights(future, one), api.Free, api.Stale, api.Stale, api.Stale},
		{append(sights(fresh-1, two), at(now, one)), api.Rogue, api.Active, api.Active, api.Rogue},
	} {
		checkOf(t, c, nil, x.ss, now, x.nobody)
		checkOf(t, c, holderOf(none), x.ss, now, x.anybody)
		checkOf(t, c, holderOf(one), x.ss, now, x.first)
		checkOf(t, c, holderOf(three), x.ss, now, x.third)
	}
}

// Of a holder only the station counts.
func TestHoldersOfAnyKind(t *testing.T) {
	c := withNeed(1)
	for _, h := range []api.Holder{{}, {Addr: math.MaxUint32, Owner: "Not an owner, and longer"}, {Owner: "\xff\x00"}} {
		checkOf(t, c, &h, nil, now, api.Planned)
		checkOf(t, c, &h, sights(now, one), now, api.Active)
		checkOf(t, c, &h, sights(aged-1, one), now, api.Stale)
		h.Mac = two
		checkOf(t, c, &h, sights(now, two), now, api.Active)
		checkOf(t, c, &h, sights(now, one), now, api.Rogue)
	}
}

// Of a configuration only three fields count, and of a sighting neither its source nor that it is a valid one.
func TestWhatDoesNotCount(t *testing.T) {
	for _, n := range []int{math.MinInt, -1, 0, 1, 5, math.MaxInt} {
		c := api.Config{Fresh: 5, Old: 10, Need: 2, Every: n, Rate: n, Wait: n, Again: n, Open: n, Quiet: n}
		from := api.Source(n)
		ss := []api.Sight{{From: from, Mac: one, At: fresh}, {From: api.Lease, Mac: one, At: now}}
		checkOf(t, c, holderOf(one), ss, now, api.Active)
		checkOf(t, c, holderOf(two), ss, now, api.Rogue)
		checkOf(t, c, holderOf(one), ss[:1], now, api.Planned)
		ss[1].Mac = two
		checkOf(t, c, holderOf(one), ss, now, api.Conflict)
		ss[0].At, ss[1].At = aged-1, aged-1
		checkOf(t, c, holderOf(one), ss, now, api.Stale)
	}
	for from := api.Source(-1); from <= api.Sources; from++ {
		checkOf(t, withNeed(1), holderOf(one), []api.Sight{{From: from, Mac: one, At: now}}, now, api.Active)
		checkOf(t, withNeed(1), nil, []api.Sight{{From: from, Mac: none, At: now}}, now, api.Rogue)
	}
}

// Stations that differ in one bit are different ones, and one with one bit is a station.
func TestStationsThatDifferInOneBit(t *testing.T) {
	c := withNeed(1)
	for bit := range 48 {
		for _, m := range []api.Mac{none, one, {0xff, 0xff, 0xff, 0xff, 0xff, 0xff}, {1, 2, 3, 4, 5, 6}} {
			other := m
			other[bit/8] ^= 1 << (bit % 8)
			if m == none || other == none {
				checkOf(t, c, holderOf(none), sights(now, m, other), now, api.Active)
				checkOf(t, c, holderOf(m), sights(now, m, other), now, wantOf(c, holderOf(m), sights(now, m, other), now))
				continue
			}
			checkOf(t, c, holderOf(none), sights(now, m, other), now, api.Conflict)
			checkOf(t, c, nil, sights(now, other, m), now, api.Conflict)
			checkOf(t, c, holderOf(m), sights(now, other), now, api.Rogue)
			checkOf(t, c, holderOf(m), sights(now, m, m), now, api.Active)
		}
		single := none
		single[bit/8] = 1 << (bit % 8)
		checkOf(t, withNeed(3), holderOf(single), sights(now, none), now, api.Planned)
		if single != one {
			checkOf(t, c, holderOf(single), sights(now, one), now, api.Rogue)
			checkOf(t, c, holderOf(one), sights(now, single), now, api.Rogue)
			checkOf(t, c, nil, sights(now, single, one), now, api.Conflict)
		}
	}
}

// Sightings that name no station make neither a conflict nor another station, wherever they stand, but they count as fresh.
func TestSightingsThatNameNoStation(t *testing.T) {
	for _, x := range []struct {
		stations []api.Mac
		want     api.Status
	}{
		{[]api.Mac{none}, api.Planned},
		{[]api.Mac{none, none, none}, api.Active},
		{[]api.Mac{none, one, one}, api.Active},
		{[]api.Mac{one, none, one}, api.Active},
		{[]api.Mac{one, one, none}, api.Active},
		{[]api.Mac{none, one, none}, api.Active},
		{[]api.Mac{none, none, one}, api.Active},
		{[]api.Mac{one, none, none}, api.Active},
		{[]api.Mac{none, one}, api.Planned},
		{[]api.Mac{none, two}, api.Rogue},
		{[]api.Mac{two, none}, api.Rogue},
		{[]api.Mac{none, two, none}, api.Rogue},
		{[]api.Mac{two, none, two}, api.Rogue},
		{[]api.Mac{none, none, two}, api.Rogue},
		{[]api.Mac{two, none, none}, api.Rogue},
		{[]api.Mac{none, one, two}, api.Conflict},
		{[]api.Mac{one, none, two}, api.Conflict},
		{[]api.Mac{one, two, none}, api.Conflict},
		{[]api.Mac{two, none, one}, api.Conflict},
		{[]api.Mac{none, one, none, two}, api.Conflict},
		{[]api.Mac{one, none, none, two}, api.Conflict},
		{[]api.Mac{two, none, three, none}, api.Conflict},
	} {
		checkOf(t, withNeed(3), holderOf(one), sights(now, x.stations...), now, x.want)
	}
	for n := range 10 {
		ss := sights(now, slices.Repeat([]api.Mac{none}, n)...)
		checkOf(t, withNeed(20), holderOf(none), ss, now, api.Planned)
		checkOf(t, withNeed(20), holderOf(one), ss, now, api.Planned)
		for place := range n + 1 {
			checkOf(t, withNeed(20), holderOf(one), slices.Insert(slices.Clone(ss), place, at(now, two)), now, api.Rogue)
			for other := range n + 2 {
				both := slices.Insert(slices.Insert(slices.Clone(ss), place, at(now, one)), other, at(now, two))
				checkOf(t, withNeed(20), holderOf(none), both, now, api.Conflict)
			}
		}
	}
}

// All but one of the fresh sightings name the same station; that one stands at each place.
func TestOneOtherStationAtEachPlace(t *testing.T) {
	for n := 1; n <= 9; n++ {
		for place := range n {
			ss := sights(now, slices.Repeat([]api.Mac{one}, n)...)
			ss[place].Mac = two
			want := api.Conflict
			if n == 1 {
				want = api.Rogue
			}
			checkOf(t, withNeed(20), holderOf(one), ss, now, want)
			ss[place].At = fresh - 1
			checkOf(t, withNeed(20), holderOf(one), ss, now, api.Planned)
			ss[place].At = future
			checkOf(t, withNeed(20), holderOf(one), ss, now, wantOf(withNeed(20), holderOf(one), ss, now))
		}
	}
}
