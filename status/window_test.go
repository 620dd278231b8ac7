package status_test

import (
	"math"
	"slices"
	"testing"

	"terrier/api"
)

// P13.1: how many sightings

func TestNeed(t *testing.T) {
	for need := 1; need <= 12; need++ {
		c := withNeed(need)
		for n := range need + 6 {
			ss := sights(now, slices.Repeat([]api.Mac{one}, n)...)
			want := api.Planned
			if n >= need {
				want = api.Active
			}
			checkOf(t, c, holderOf(one), ss, now, want)
			checkOf(t, c, holderOf(none), ss, now, want)
		}
	}
}

// With a Need of 0 or below, no sighting is needed.
func TestNeedOfNothing(t *testing.T) {
	for _, need := range []int{0, -1, -2, -8, -1 << 40, math.MinInt + 1, math.MinInt} {
		c := withNeed(need)
		checkOf(t, c, nil, nil, now, api.Free)
		checkOf(t, c, nil, sights(fresh-1, one), now, api.Free)
		checkOf(t, c, nil, sights(now, one), now, api.Rogue)
		checkOf(t, c, holderOf(one), nil, now, api.Active)
		checkOf(t, c, holderOf(one), sights(now, one), now, api.Active)
		checkOf(t, c, holderOf(one), sights(fresh-1, one), now, api.Active)
		checkOf(t, c, holderOf(one), sights(aged-1, one), now, api.Active)
		checkOf(t, c, holderOf(one), sights(now, two), now, api.Rogue)
		// Only the last sighting is looked at.
		checkOf(t, c, holderOf(one), sights(now, two, one), now, api.Active)
		checkOf(t, c, holderOf(one), sights(now, one, two), now, api.Rogue)
		checkOf(t, c, holderOf(one), append(sights(now, two), at(future, one)), now, api.Active)
		checkOf(t, c, nil, append(sights(now, two), at(future, one)), now, api.Free)
	}
}

func TestNeedOfOne(t *testing.T) {
	c := withNeed(1)
	checkOf(t, c, holderOf(one), nil, now, api.Planned)
	checkOf(t, c, holderOf(one), sights(now, one), now, api.Active)
	checkOf(t, c, holderOf(one), sights(fresh-1, one), now, api.Planned)
	checkOf(t, c, holderOf(one), sights(now, two, one), now, api.Conflict)
	checkOf(t, c, holderOf(one), sights(now, two, one, one), now, api.Active)
	checkOf(t, c, holderOf(one), append(sights(now, one), at(future, none)), now, api.Active)
	checkOf(t, c, holderOf(one), append(sights(now, one), sights(future, none, none)...), now, api.Stale)
}

// A Need that no list can meet: all sightings are looked at, and Need + 1 does not wrap around.
func TestNeedOfMoreThanThereAre(t *testing.T) {
	for _, need := range []int{50, 1 << 31, 1<<32 - 1, 1 << 40, math.MaxInt - 1, math.MaxInt} {
		c := withNeed(need)
		checkOf(t, c, nil, nil, now, api.Free)
		checkOf(t, c, holderOf(one), nil, now, api.Planned)
		for n := 1; n <= 40; n++ {
			ss := sights(now, slices.Repeat([]api.Mac{one}, n)...)
			checkOf(t, c, holderOf(one), ss, now, api.Planned)
			checkOf(t, c, holderOf(two), ss, now, api.Rogue)
			checkOf(t, c, nil, ss, now, api.Rogue)
			checkOf(t, c, holderOf(one), append(sights(now, two), ss...), now, api.Conflict)
			checkOf(t, c, holderOf(two), append(sights(now, one), sights(aged-1, slices.Repeat([]api.Mac{none}, n)...)...), now, api.Rogue)
		}
	}
}

// A sighting of another station counts while it is one of the last Need + 1, and not a place ahead of them.
func TestTheLastNeedAndOne(t *testing.T) {
	for need := range 12 {
		c := withNeed(need)
		for behind := range need + 5 {
			ss := append(sights(now, two), sights(now, slices.Repeat([]api.Mac{one}, behind)...)...)
			want := api.Active
			switch {
			case behind == 0:
				want = api.Rogue
			case behind <= need:
				want = api.Conflict
			}
			checkOf(t, c, holderOf(one), ss, now, want)
			// What stands further ahead makes no difference where this one does not count.
			if behind > need {
				checkOf(t, c, holderOf(one), append(sights(now, three, none), ss...), now, want)
			}
		}
	}
}

// The fresh ones are of the last Need + 1, not the last Need + 1 of the fresh ones.
func TestFreshSightingsAheadOfTheLastOnes(t *testing.T) {
	for need := 1; need <= 8; need++ {
		c := withNeed(need)
		for others := range need + 4 {
			old := sights(fresh-1, slices.Repeat([]api.Mac{none}, others)...)
			ss := append(sights(now, slices.Repeat([]api.Mac{one}, 12)...), old...)
			holder, nobody, other := api.Planned, api.Rogue, api.Rogue
			if others <= 1 {
				holder = api.Active
			}
			if others > need {
				nobody, other = api.Free, api.Planned
			}
			checkOf(t, c, holderOf(one), ss, now, holder)
			checkOf(t, c, nil, ss, now, nobody)
			checkOf(t, c, holderOf(two), ss, now, other)
		}
	}
}

// P13.1: ticks

// checkFresh asks for a sighting alone: of an address that nobody holds, and of one whose holder needs one.
func checkFresh(t *testing.T, count, tick, now int, want bool) {
	t.Helper()
	c := api.Config{Fresh: count, Old: math.MaxInt, Need: 1}
	nobody, active, other := api.Free, api.Planned, api.Planned
	if want {
		nobody, active, other = api.Rogue, api.Active, api.Rogue
	}
	if !within(now, tick, math.MaxInt) && !want {
		active, other = api.Stale, api.Stale
	}
	checkOf(t, c, nil, sights(tick, one), now, nobody)
	checkOf(t, c, holderOf(one), sights(tick, one), now, active)
	checkOf(t, c, holderOf(two), sights(tick, one), now, other)
	if want {
		checkOf(t, c, holderOf(one), sights(tick, one, two), now, api.Conflict)
	}
}

func TestFresh(t *testing.T) {
	for _, count := range []int{1, 2, 5, 20, 1000} {
		for _, now := range []int{1000, 1001, 12345, 1 << 32, api.MaxTick - 1, api.MaxTick} {
			checkFresh(t, count, now, now, true)
			checkFresh(t, count, now-count+1, now, true)
			checkFresh(t, count, now-count, now, false)
			checkFresh(t, count, now-count-1, now, false)
			checkFresh(t, count, 0, now, count > now)
			if now < api.MaxTick {
				checkFresh(t, count, now+1, now, false)
				checkFresh(t, count, now+count, now, false)
			}
		}
	}
	checkFresh(t, 6, 0, 5, true)
	checkFresh(t, 5, 0, 5, false)
}

func TestFreshOfNothing(t *testing.T) {
	for _, count := range []int{0, -1, -1 << 40, math.MinInt} {
		for _, tick := range []int{0, 1, 98, 99, 100, 101, 200, math.MaxInt} {
			checkFresh(t, count, tick, now, false)
		}
	}
}

// Ticks below 0 count as 0, and those above the last one as the last one.
func TestFreshAtTheEnds(t *testing.T) {
	for _, now := range []int{api.MaxTick, api.MaxTick + 1, api.MaxTick + 5, api.MaxTick + 6, 1 << 41, math.MaxInt - 1, math.MaxInt} {
		checkFresh(t, 5, api.MaxTick-4, now, true)
		checkFresh(t, 5, api.MaxTick-5, now, false)
		for _, tick := range []int{api.MaxTick, api.MaxTick + 1, api.MaxTick + 100, math.MaxInt} {
			checkFresh(t, 5, tick, now, true)
			checkFresh(t, 1, tick, now, true)
		}
		checkFresh(t, 1, api.MaxTick-1, now, false)
		checkFresh(t, api.MaxTick+1, 0, now, true)
		checkFresh(t, api.MaxTick, 0, now, false)
		checkFresh(t, api.MaxTick, 1, now, true)
	}
	for _, now := range []int{0, -1, -5, -100, math.MinInt} {
		for _, tick := range []int{0, -1, -7, math.MinInt} {
			checkFresh(t, 1, tick, now, true)
			checkFresh(t, 0, tick, now, false)
		}
		checkFresh(t, 5, 1, now, false)
		checkFresh(t, 5, math.MaxInt, now, false)
	}
	checkFresh(t, 4, -9, 3, true)
	checkFresh(t, 3, -9, 3, false)
	checkFresh(t, math.MaxInt, math.MinInt, math.MaxInt, true)
}

// checkOld asks for a last sighting behind others of which each may stand.
func checkOld(t *testing.T, count, tick, now int, stale bool) {
	t.Helper()
	c := api.Config{Fresh: 1, Old: count, Need: 3}
	want := api.Planned
	if stale {
		want = api.Stale
	}
	for _, h := range []*api.Holder{holderOf(none), holderOf(one)} {
		checkOf(t, c, h, sights(tick, one), now, want)
		checkOf(t, c, h, sights(tick, none), now, want)
		checkOf(t, c, h, sights(tick, one, one, one, one, one, one), now, wantOf(c, h, sights(tick, one, one, one, one, one, one), now))
		for _, first := range []int{0, math.MinInt, tick - 1, tick, now, math.MaxInt} {
			checkOf(t, c, h, append(sights(first, one), at(tick, one)), now, want)
		}
	}
	checkOf(t, c, nil, sights(tick, one), now, wantOf(c, nil, sights(tick, one), now))
}

func TestOld(t *testing.T) {
	for _, count := range []int{1, 2, 10, 60, 10000} {
		for _, now := range []int{10001, 12345, 1 << 32, api.MaxTick - 1, api.MaxTick} {
			checkOld(t, count, now, now, false)
			checkOld(t, count, now-count+1, now, false)
			checkOld(t, count, now-count, now, true)
			checkOld(t, count, now-count-1, now, true)
			checkOld(t, count, 0, now, true)
			if now < api.MaxTick {
				checkOld(t, count, now+1, now, true)
			}
		}
	}
	checkOld(t, 6, 0, 5, false)
	checkOld(t, 5, 0, 5, true)
}

func TestOldOfNothing(t *testing.T) {
	for _, count := range []int{0, -1, math.MinInt} {
		for _, tick := range []int{0, 99, 100, 101} {
			checkOld(t, count, tick, now, true)
		}
		c := api.Config{Fresh: 5, Old: count, Need: 1}
		checkOf(t, c, holderOf(one), nil, now, api.Planned)
		checkOf(t, c, holderOf(one), sights(now, one), now, api.Active)
	}
}

func TestOldAtTheEnds(t *testing.T) {
	for _, now := range []int{api.MaxTick, api.MaxTick + 1, api.MaxTick + 10, math.MaxInt} {
		checkOld(t, 10, api.MaxTick-9, now, false)
		checkOld(t, 10, api.MaxTick-10, now, true)
		checkOld(t, 10, api.MaxTick+1, now, false)
		checkOld(t, 10, math.MaxInt, now, false)
		checkOld(t, math.MaxInt, math.MinInt, now, false)
		checkOld(t, math.MinInt, math.MaxInt, now, true)
	}
	for _, now := range []int{0, -1, math.MinInt} {
		checkOld(t, 1, 0, now, false)
		checkOld(t, 1, math.MinInt, now, false)
		checkOld(t, 10, 1, now, true)
		checkOld(t, 10, math.MaxInt, now, true)
	}
}

// Old is asked of the last sighting only, whichever is the latest one.
func TestOldOfTheLastSighting(t *testing.T) {
	for need := 2; need <= 8; need++ {
		c := withNeed(need)
		checkOf(t, c, holderOf(one), []api.Sight{at(aged-1, one), at(aged, one)}, now, api.Planned)
		checkOf(t, c, holderOf(one), []api.Sight{at(aged, one), at(aged-1, one)}, now, api.Stale)
		checkOf(t, c, holderOf(one), []api.Sight{at(now, one), at(aged-1, one)}, now, api.Stale)
		checkOf(t, c, holderOf(one), []api.Sight{at(aged-1, one), at(now, one)}, now, api.Planned)
		checkOf(t, c, holderOf(one), []api.Sight{at(future, one), at(aged, one)}, now, api.Planned)
	}
}
