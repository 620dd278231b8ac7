package status_test

import (
	"math"
	"math/rand"
	"testing"

	"terrier/api"
	"terrier/status"
)

// order is that in which the statuses are looked at.
var order = [...]api.Status{api.Conflict, api.Rogue, api.Free, api.Active, api.Stale, api.Planned}

// within is clock.Within, written otherwise.
func within(now, tick, count int) bool {
	now, tick = nearest(now), nearest(tick)
	return tick <= now && count > 0 && uint64(now-tick) < uint64(count)
}

func nearest(tick int) int {
	switch {
	case tick < 0:
		return 0
	case tick > 1<<40:
		return 1 << 40
	}
	return tick
}

// holds tells of each status whether what the document says of it is so, whatever the others are.
func holds(c api.Config, h *api.Holder, ss []api.Sight, now int) map[api.Status]bool {
	count := 0
	stations := map[api.Mac]bool{}
	for i, s := range ss {
		fromBehind := uint64(len(ss) - i)
		if fromBehind > 1 && (c.Need < 0 || fromBehind-1 > uint64(c.Need)) || !within(now, s.At, c.Fresh) {
			continue
		}
		count++
		stations[s.Mac] = true
	}
	delete(stations, api.Mac{})
	conflict := len(stations) > 1
	rogue := h == nil && count > 0
	if h != nil && h.Mac != (api.Mac{}) {
		delete(stations, h.Mac)
		rogue = len(stations) > 0
	}
	return map[api.Status]bool{
		api.Conflict: conflict,
		api.Rogue:    rogue,
		api.Free:     h == nil,
		api.Active:   count >= c.Need,
		api.Stale:    len(ss) > 0 && !within(now, ss[len(ss)-1].At, c.Old),
		api.Planned:  true,
	}
}

func wantOf(c api.Config, h *api.Holder, ss []api.Sight, now int) api.Status {
	all := holds(c, h, ss, now)
	for _, s := range order {
		if all[s] {
			return s
		}
	}
	return -1
}

func checkModel(t *testing.T, c api.Config, h *api.Holder, ss []api.Sight, now int) {
	t.Helper()
	if got, want := status.Of(c, h, ss, now), wantOf(c, h, ss, now); got != want {
		t.Fatalf("Of(%+v, %+v, %v, %d) = %q, want %q", c, h, ss, now, status.Name(got), status.Name(want))
	}
}

// Every list of up to four sightings, of these ticks and stations, with each of these holders and needs.
func TestEveryShortList(t *testing.T) {
	var kinds []api.Sight
	for _, tick := range []int{aged - 1, fresh - 1, fresh, future} {
		kinds = append(kinds, sights(tick, none, one, two)...)
	}
	holders := []*api.Holder{nil, holderOf(none), holderOf(one), holderOf(three)}
	lists := [][]api.Sight{nil}
	for n := 0; n <= 4; n++ {
		for _, ss := range lists {
			for _, h := range holders {
				for need := -1; need <= 4; need++ {
					checkModel(t, withNeed(need), h, ss, now)
				}
			}
		}
		if n < 4 {
			lists = longer(lists, kinds)
		}
	}
}

// longer are the lists with one more sighting, of each kind.
func longer(lists [][]api.Sight, kinds []api.Sight) [][]api.Sight {
	var all [][]api.Sight
	for _, ss := range lists {
		for _, s := range kinds {
			all = append(all, append(ss[:len(ss):len(ss)], s))
		}
	}
	return all
}

// Numbers at and beside all ends, in each place.
func TestRandomNumbers(t *testing.T) {
	r := rand.New(rand.NewSource(13))
	ends := []int{math.MinInt, math.MinInt + 1, -1 << 40, -2, -1, 0, 1, 2, 3, 5, 8, 1 << 32, 1<<40 - 3, 1<<40 - 1, 1 << 40, 1<<40 + 1, 1 << 62, math.MaxInt - 1, math.MaxInt}
	end := func() int { return ends[r.Intn(len(ends))] }
	stations := []api.Mac{none, one, two, {1, 1, 1, 1, 1, 1}}
	for range 300000 {
		c := api.Config{Fresh: end(), Old: end(), Need: end()}
		if r.Intn(2) == 0 {
			c.Need = r.Intn(8) - 1
		}
		var ss []api.Sight
		for range r.Intn(10) {
			ss = append(ss, api.Sight{From: api.Source(end()), Mac: stations[r.Intn(1+r.Intn(4))], At: end()})
		}
		h := holderOf(stations[r.Intn(4)])
		if r.Intn(3) == 0 {
			h = nil
		}
		checkModel(t, c, h, ss, end())
	}
}

// Lists as layer 12 keeps them, and configurations as layer 10 has them.
func TestRandomValidLists(t *testing.T) {
	r := rand.New(rand.NewSource(31))
	met := map[api.Status]int{}
	for range 300000 {
		c := api.Config{Fresh: 1 + r.Intn(12), Need: 1 + r.Intn(6)}
		c.Old = c.Fresh + r.Intn(12)
		tick := r.Intn(20)
		var ss []api.Sight
		for range r.Intn(9) {
			tick += r.Intn(5)
			m := one
			if r.Intn(4) == 0 {
				m = []api.Mac{none, two}[r.Intn(2)]
			}
			ss = append(ss, at(tick, m))
		}
		h := []*api.Holder{nil, holderOf(none), holderOf(one), holderOf(one)}[r.Intn(4)]
		later := tick + r.Intn(25)
		checkModel(t, c, h, ss, later)
		met[wantOf(c, h, ss, later)]++
	}
	for _, s := range order {
		if met[s] < 1000 {
			t.Errorf("%q came %d times only", status.Name(s), met[s])
		}
	}
}

// Of lists far longer than any that is kept, the answer comes as soon.
func TestLongLists(t *testing.T) {
	const length = 1 << 20
	ss := make([]api.Sight, length)
	for i := range ss {
		ss[i] = at(now, one)
	}
	checkLong := func(need int, h *api.Holder, want api.Status) {
		t.Helper()
		if got := status.Of(withNeed(need), h, ss, now); got != want {
			t.Errorf("Need %d: %q, want %q", need, status.Name(got), status.Name(want))
		}
	}
	checkLong(length, holderOf(one), api.Active)
	checkLong(length+1, holderOf(one), api.Planned)
	checkLong(math.MaxInt, holderOf(one), api.Planned)
	ss[0].Mac = two
	checkLong(length-2, holderOf(one), api.Active)
	checkLong(length-1, holderOf(one), api.Conflict)
	checkLong(math.MaxInt, holderOf(one), api.Conflict)
	checkLong(0, nil, api.Rogue)
	for i := range ss {
		ss[i].Mac = api.Mac{2, 0, 0, byte(i >> 16), byte(i >> 8), byte(i)}
	}
	checkLong(math.MaxInt, nil, api.Conflict)
	checkLong(1, nil, api.Conflict)
	for i := range ss {
		ss[i].Mac = none
	}
	checkLong(math.MaxInt, holderOf(one), api.Planned)
	checkLong(length, holderOf(one), api.Active)
	checkLong(-1, nil, api.Rogue)
}
