package seen_test

import (
	"math"
	"math/rand"
	"slices"
	"testing"

	"terrier/api"
	"terrier/seen"
)

// P12.2: Keep

func checkKeep(t *testing.T, ss []api.Sight, s api.Sight, want []api.Sight) {
	t.Helper()
	memory := append(slices.Clone(ss), sightOf(1), sightOf(2), sightOf(3))
	before := slices.Clone(memory)
	given := memory[:len(ss)]
	got := seen.Keep(given, s)
	again := seen.Keep(given, s)
	if !slices.Equal(got, want) || !slices.Equal(again, want) {
		t.Fatalf("Keep(%v, %v) = %v, and %v, want %v", ss, s, got, again, want)
	}
	fillSights(got)
	if !slices.Equal(again, want) {
		t.Fatalf("two answers of Keep(%v, %v) share memory", ss, s)
	}
	if !slices.Equal(memory, before) {
		t.Fatalf("Keep(%v, %v) has it be %v", ss, s, memory)
	}
	fillSights(memory)
	if !slices.Equal(again, want) {
		t.Fatalf("Keep(%v, %v) answers memory that was given", ss, s)
	}
}

func TestKeepOfSoMany(t *testing.T) {
	checkKeep(t, nil, sightOf(4), sightsOf(4))
	checkKeep(t, []api.Sight{}, sightOf(4), sightsOf(4))
	checkKeep(t, sightsOf(1), sightOf(4), sightsOf(1, 4))
	checkKeep(t, sightsOf(1, 2, 3, 4, 5, 6), sightOf(7), sightsOf(1, 2, 3, 4, 5, 6, 7))
	checkKeep(t, sightsOf(1, 2, 3, 4, 5, 6, 7), sightOf(8), sightsOf(1, 2, 3, 4, 5, 6, 7, 8))
	checkKeep(t, sightsOf(1, 2, 3, 4, 5, 6, 7, 8), sightOf(9), sightsOf(2, 3, 4, 5, 6, 7, 8, 9))
	checkKeep(t, sightsOf(1, 2, 3, 4, 5, 6, 7, 8, 9), sightOf(10), sightsOf(3, 4, 5, 6, 7, 8, 9, 10))
	for n := range 30 {
		kept := min(n+1, maxSeen)
		checkKeep(t, ticks(100, n), sightOf(100+n), ticks(101+n-kept, kept))
	}
	for _, n := range []int{255, 256, 1000, 100000} {
		checkKeep(t, ticks(100, n), sightOf(100+n), ticks(93+n, 8))
	}
}

// Keep looks at no sighting: those that are not valid are kept, too, and none is put in order.
func TestKeepOfAnySightings(t *testing.T) {
	odd := []api.Sight{{}, {From: -1, At: -1}, {From: 4, At: math.MinInt}, {From: math.MaxInt, At: math.MaxInt, Mac: api.Mac{255, 255, 255, 255, 255, 255}}, sightOf(3)}
	for _, s := range odd {
		checkKeep(t, nil, s, []api.Sight{s})
		for _, other := range odd {
			checkKeep(t, []api.Sight{other}, s, []api.Sight{other, s})
			checkKeep(t, slices.Repeat([]api.Sight{other}, 9), s, append(slices.Repeat([]api.Sight{other}, 7), s))
		}
	}
	checkKeep(t, sightsOf(9, 8, 7, 6, 5, 4, 3, 2), sightOf(1), sightsOf(8, 7, 6, 5, 4, 3, 2, 1))
}

// checkCall makes a call with a list that has room behind it, and asks for what it answers, that the list and all room stay as they were, also when the answer is written over, and that the answer stays as it was when the list is.
func checkCall(t *testing.T, name string, ks []api.Known, call func(ks []api.Known) ([]api.Known, api.Errno), want []api.Known, wantErr api.Errno) {
	t.Helper()
	given, all := laidOut(ks)
	before := all.copied()
	got, err := call(given)
	if !equal(got, want) || err != wantErr {
		t.Fatalf("%s of %v is %v, %v, want %v, %v", name, ks, got, err, want, wantErr)
	}
	again, err := call(given)
	if !equal(again, want) || err != wantErr {
		t.Fatalf("%s of %v is %v, %v at the second call, want %v, %v", name, ks, again, err, want, wantErr)
	}
	if !apart(got) {
		t.Fatalf("%s of %v answers sightings that share memory", name, ks)
	}
	fill(got)
	if !all.equal(before) {
		t.Fatalf("%s of %v has it be %v", name, ks, all)
	}
	if !equal(again, want) {
		t.Fatalf("two answers of %s of %v share memory", name, ks)
	}
	all.fill()
	if !equal(again, want) {
		t.Fatalf("%s of %v answers memory that was given", name, ks)
	}
}

// P12.2: Put

func checkPut(t *testing.T, ks []api.Known, a api.Addr, s api.Sight, want []api.Known, wantErr api.Errno) {
	t.Helper()
	put := func(ks []api.Known) ([]api.Known, api.Errno) { return seen.Put(ks, a, s) }
	checkCall(t, "Put", ks, put, want, wantErr)
	if wantErr == 0 {
		got, _ := seen.Put(ks, a, s)
		checkRight(t, got, true)
		checkLast(t, got, a, s.At, true)
	}
}

// with is a list with an address added at a place, made by hand.
func with(ks []api.Known, i int, a api.Addr, ss ...api.Sight) []api.Known {
	var list []api.Known
	list = append(list, ks[:i]...)
	list = append(list, api.Known{Addr: a, Seen: ss})
	return deep(append(list, ks[i:]...))
}

func TestPutOfAnAddressThatIsNotKnown(t *testing.T) {
	for _, n := range []int{0, 1, 2, 3, 94, 95} {
		ks := rising(n)
		for i := range n + 1 {
			for _, a := range []api.Addr{91, 95, 99} {
				a += api.Addr(10 * i)
				checkPut(t, ks, a, sightOf(6), with(ks, i, a, sightOf(6)), 0)
			}
		}
		checkPut(t, ks, 0, sightOf(6), with(ks, 0, 0, sightOf(6)), 0)
		checkPut(t, ks, lastAddr, sightOf(6), with(ks, n, lastAddr, sightOf(6)), 0)
	}
	checkPut(t, []api.Known{}, 5, sightOf(6), with(nil, 0, 5, sightOf(6)), 0)
	checkPut(t, rowOf(0), lastAddr, sightOf(0), with(rowOf(0), 1, lastAddr, sightOf(0)), 0)
	checkPut(t, rowOf(lastAddr), 0, sightOf(0), with(rowOf(lastAddr), 0, 0, sightOf(0)), 0)
	checkPut(t, rowOf(0x80000000), 0x7fffffff, sightOf(1), with(rowOf(0x80000000), 0, 0x7fffffff, sightOf(1)), 0)
	checkPut(t, rowOf(0x7fffffff), 0x80000000, sightOf(1), with(rowOf(0x7fffffff), 1, 0x80000000, sightOf(1)), 0)
}

// At each place, with each number of sightings, in a list that is full, too.
func TestPutOfAnAddressThatIsKnown(t *testing.T) {
	for _, n := range []int{1, 2, 3, 96} {
		for i := range n {
			for many := 1; many <= maxSeen; many++ {
				a := api.Addr(100 + 10*i)
				ks := withSeen(rising(n), i, ticks(50, many))
				kept := min(many+1, maxSeen)
				checkPut(t, ks, a, sightOf(50+many), withSeen(ks, i, ticks(51+many-kept, kept)), 0)
			}
		}
	}
	ks := []api.Known{{Addr: 0, Seen: sightsOf(1)}, {Addr: lastAddr, Seen: sightsOf(2)}}
	checkPut(t, ks, 0, sightOf(3), withSeen(ks, 0, sightsOf(1, 3)), 0)
	checkPut(t, ks, lastAddr, sightOf(3), withSeen(ks, 1, sightsOf(2, 3)), 0)
}

// Nine sightings of an address: the first one is no longer kept.
func TestPutOfNineSightings(t *testing.T) {
	var ks []api.Known
	for at := range 9 {
		ks, _ = seen.Put(ks, 9, sightOf(at))
	}
	if want := []api.Known{{Addr: 9, Seen: ticks(1, 8)}}; !equal(ks, want) {
		t.Fatalf("nine sightings make %v, want %v", ks, want)
	}
}

func TestPutOfSources(t *testing.T) {
	ks := withSeen(rising(3), 1, sightsOf(5))
	for from := api.Source(0); from < 4; from++ {
		s := api.Sight{From: from, At: 6, Mac: api.Mac{1, 2, 3, 4, 5, 6}}
		checkPut(t, ks, 110, s, withSeen(ks, 1, []api.Sight{sightOf(5), s}), 0)
		checkPut(t, ks, 105, s, with(ks, 1, 105, s), 0)
		checkPut(t, nil, 105, s, with(nil, 0, 105, s), 0)
	}
	for _, from := range wrongSources {
		for _, n := range []int{0, 1, 2, 3, 95, 96} {
			for _, a := range []api.Addr{0, 95, 100, 105, 110, 1050, lastAddr} { // not known, and, of a list that has it, known
				for _, at := range []int{math.MinInt, -1, 0, 5, math.MaxInt} { // of a tick that is wrong, and of one that is not
					checkPut(t, rising(n), a, api.Sight{From: from, At: at}, nil, api.ErrArgument)
				}
			}
		}
	}
}

func TestPutOfTicks(t *testing.T) {
	for _, ss := range [][]api.Sight{sightsOf(0), sightsOf(5), sightsOf(0, 5), ticks(5, 7), ticks(5, 8), sightsOf(9, 9, 9, 9, 9, 9, 9, 9), sightsOf(math.MaxInt - 1), sightsOf(math.MaxInt)} {
		for _, n := range []int{1, 2, 3, 96} {
			for _, i := range []int{0, n / 2, n - 1} {
				ks := withSeen(rising(n), i, ss)
				a, last := ks[i].Addr, ss[len(ss)-1].At
				for _, at := range []int{math.MinInt, -1, ss[0].At - 1, last - 1} {
					checkPut(t, ks, a, api.Sight{At: at}, nil, api.ErrRange)
				}
				for _, at := range []int{last, max(last, last+1), max(last, api.MaxTick), max(last, api.MaxTick+1), math.MaxInt} {
					want := append(slices.Clone(ss), sightOf(at))
					checkPut(t, ks, a, sightOf(at), withSeen(ks, i, want[max(0, len(want)-8):]), 0)
				}
			}
		}
	}
}

// An address that is not known may be seen at any tick that is one, whenever the others were.
func TestPutOfTicksOfAnAddressThatIsNotKnown(t *testing.T) {
	for _, n := range []int{0, 1, 2, 95} {
		ks := rising(n)
		for _, at := range []int{0, 1, 299, api.MaxTick, api.MaxTick + 1, math.MaxInt} {
			for _, i := range []int{0, n} {
				a := api.Addr(95 + 10*i)
				checkPut(t, ks, a, sightOf(at), with(ks, i, a, sightOf(at)), 0)
			}
		}
	}
	for _, n := range []int{0, 1, 2, 95, 96} { // a list of 96 is full besides
		for _, at := range []int{-1, -2, math.MinInt} {
			for _, a := range []api.Addr{0, 95, 105, 2000, lastAddr} {
				checkPut(t, rising(n), a, api.Sight{At: at}, nil, api.ErrRange)
			}
		}
	}
}

func TestPutToAListThatIsFull(t *testing.T) {
	ks := rising(96)
	for i := range 97 {
		for _, at := range []int{0, 1, 5000, math.MaxInt} {
			checkPut(t, ks, api.Addr(95+10*i), sightOf(at), nil, api.ErrFull)
		}
	}
	checkPut(t, ks, 0, sightOf(0), nil, api.ErrFull)
	checkPut(t, ks, lastAddr, sightOf(0), nil, api.ErrFull)
	less := seen.Forget(ks, func(a api.Addr) bool { return a != 300 })
	checkPut(t, less, 5, sightOf(1), with(less, 0, 5, sightOf(1)), 0)
	checkPut(t, less, 300, sightOf(1), with(less, 20, 300, sightOf(1)), 0)
}

// Sightings of several addresses that are one list, in one memory: no answer has them so.
func TestSightingsThatShareMemory(t *testing.T) {
	shared := append(ticks(5, 8), sightOf(99))[:8]
	var ks []api.Known
	for i := range 8 {
		ks = append(ks, api.Known{Addr: api.Addr(i), Seen: shared[:i+1]})
	}
	before := deep(ks)
	changes := [][]api.Known{seen.Forget(ks, func(a api.Addr) bool { return true })}
	for a := range api.Addr(9) {
		got, err := seen.Put(ks, a, sightOf(50))
		if err != 0 {
			t.Fatal(a, err)
		}
		changes = append(changes, got)
	}
	for i, got := range changes {
		if !apart(got) {
			t.Fatalf("list %d has sightings that share memory", i)
		}
		fill(got)
	}
	if !equal(ks, before) || shared[:9][8] != sightOf(99) {
		t.Fatalf("%v was changed to %v", before, ks)
	}
}

// P12.3: Forget

func checkForget(t *testing.T, ks []api.Known, wanted func(a api.Addr) bool, want []api.Known) {
	t.Helper()
	forget := func(ks []api.Known) ([]api.Known, api.Errno) { return seen.Forget(ks, wanted), 0 }
	checkCall(t, "Forget", ks, forget, want, 0)
	checkRight(t, seen.Forget(ks, wanted), true)
}

func TestForget(t *testing.T) {
	all := func(a api.Addr) bool { return true }
	none := func(a api.Addr) bool { return false }
	for _, n := range []int{0, 1, 2, 3, 95, 96} {
		ks := rising(n)
		checkForget(t, ks, all, ks)
		checkForget(t, ks, none, nil)
		for i := range n {
			checkForget(t, ks, func(a api.Addr) bool { return a == ks[i].Addr }, ks[i:i+1])
			checkForget(t, ks, func(a api.Addr) bool { return a != ks[i].Addr }, slices.Concat(ks[:i], ks[i+1:]))
			checkForget(t, ks, func(a api.Addr) bool { return a < ks[i].Addr }, ks[:i])
			checkForget(t, ks, func(a api.Addr) bool { return a > ks[i].Addr }, ks[i+1:])
		}
		// Addresses that are not known, though wanted.
		checkForget(t, ks, func(a api.Addr) bool { return a%10 != 0 }, nil)
	}
	checkForget(t, nil, all, nil)
	checkForget(t, nil, none, nil)
	checkForget(t, []api.Known{}, all, nil)
	checkForget(t, []api.Known{}, none, nil)
	both := rowOf(0, lastAddr)
	checkForget(t, both, func(a api.Addr) bool { return a == 0 }, both[:1])
	checkForget(t, both, func(a api.Addr) bool { return a != 0 }, both[1:])
}

// Every choice among seven addresses, of which each has another number of sightings.
func TestForgetOfEveryChoice(t *testing.T) {
	ks := rowOf(0, 10, 20, 30, 40, 50, 60)
	for set := range 1 << 7 {
		var want []api.Known
		for i, k := range ks {
			if set>>i&1 == 1 {
				want = append(want, k)
			}
		}
		checkForget(t, ks, func(a api.Addr) bool { return set>>(a/10)&1 == 1 }, want)
	}
}

// P12.2 and P12.3: all of them

// A list that a call returned stays as it was when later calls are made with it.
func TestListsStayAsTheyWere(t *testing.T) {
	type kept struct{ list, copy []api.Known }
	var all []kept
	keep := func(ks []api.Known) { all = append(all, kept{ks, deep(ks)}) }
	var ks []api.Known
	for at := range 960 {
		a := api.Addr(at * 29 % 96 * 10)
		// Two answers of one list, each of which may have room for the next one.
		other, _ := seen.Put(ks, a, sightOf(at+5))
		keep(other)
		if len(ks) < maxKnown {
			other, _ = seen.Put(ks, a+1, sightOf(at))
			keep(other)
		}
		ks, _ = seen.Put(ks, a, sightOf(at))
		keep(ks)
		if at%7 == 0 {
			keep(seen.Forget(ks, func(b api.Addr) bool { return b != a }))
		}
	}
	if len(ks) != maxKnown || len(seen.Of(ks, 0)) != maxSeen {
		t.Fatalf("%d are known", len(ks))
	}
	for i, k := range all {
		if !equal(k.list, k.copy) {
			t.Fatalf("list %d was %v, and is %v", i, k.copy, k.list)
		}
	}
}

func TestKeptSightingsStayAsTheyWere(t *testing.T) {
	var all, copies [][]api.Sight
	var ss []api.Sight
	for at := range 40 {
		other := seen.Keep(ss, sightOf(1000+at))
		ss = seen.Keep(ss, sightOf(at))
		all = append(all, other, ss)
		copies = append(copies, slices.Clone(other), slices.Clone(ss))
	}
	for i := range all {
		if !slices.Equal(all[i], copies[i]) {
			t.Fatalf("list %d was %v, and is %v", i, copies[i], all[i])
		}
	}
}

// The model is a map of all sightings there have been; its keys are sorted to hold it against the list.
type model map[api.Addr][]api.Sight

func (m model) list() []api.Known {
	var as []api.Addr
	for a := range m {
		as = append(as, a)
	}
	slices.Sort(as)
	var ks []api.Known
	for _, a := range as {
		ks = append(ks, api.Known{Addr: a, Seen: m[a][max(0, len(m[a])-maxSeen):]})
	}
	return ks
}

func (m model) wrong(a api.Addr, s api.Sight) api.Errno {
	ss, known := m[a]
	switch {
	case !slices.Contains([]api.Source{api.Echo, api.Arp, api.Neighbour, api.Lease}, s.From):
		return api.ErrArgument
	case s.At < 0 || known && s.At < ss[len(ss)-1].At:
		return api.ErrRange
	case !known && len(m) == maxKnown:
		return api.ErrFull
	}
	return 0
}

func (m model) put(t *testing.T, ks []api.Known, a api.Addr, s api.Sight) []api.Known {
	t.Helper()
	if wrong := m.wrong(a, s); wrong != 0 {
		checkPut(t, ks, a, s, nil, wrong)
		return ks
	}
	m[a] = append(m[a], s)
	checkPut(t, ks, a, s, m.list(), 0)
	got, _ := seen.Put(ks, a, s)
	return got
}

func (m model) forget(t *testing.T, ks []api.Known, wanted func(a api.Addr) bool) []api.Known {
	t.Helper()
	for a := range m {
		if !wanted(a) {
			delete(m, a)
		}
	}
	checkForget(t, ks, wanted, m.list())
	return seen.Forget(ks, wanted)
}

func TestRandomChangesAgainstModel(t *testing.T) {
	r := rand.New(rand.NewSource(12))
	for _, span := range []int{2, 10, 60, 120, 1 << 32} {
		m := model{}
		var ks []api.Known
		for now := range 2500 {
			a := api.Addr(r.Intn(span))
			if r.Intn(2) == 0 {
				a = ^a
			}
			s := sightOf(now/2 - r.Intn(4) + r.Intn(3))
			s.From = api.Source(r.Intn(4))
			if r.Intn(20) == 0 {
				s.From = wrongSources[r.Intn(len(wrongSources))]
			}
			ks = m.put(t, ks, a, s)
			if r.Intn(300) == 0 {
				bit := r.Intn(32)
				ks = m.forget(t, ks, func(a api.Addr) bool { return a>>bit&3 != 1 })
			}
			b := api.Addr(r.Intn(span))
			checkSeen(t, ks, b, m[b][max(0, len(m[b])-maxSeen):])
		}
	}
}

// Lists that are not valid: whatever is answered, no call panics, and each one ends.
func TestListsThatAreNotValid(t *testing.T) {
	empty, many := api.Known{Addr: 110}, api.Known{Addr: 110, Seen: ticks(5, 9)}
	lists := [][]api.Known{
		{empty}, {empty, empty}, {empty, many}, {many}, {many, empty}, {{Addr: 110, Seen: []api.Sight{}}},
		{{Addr: 110, Seen: ticks(5, 5000)}}, {{Addr: 110, Seen: sightsOf(-1)}}, {{Addr: 110, Seen: sightsOf(math.MinInt)}},
		{{Addr: 110, Seen: []api.Sight{{From: -1}, {From: 4}, {From: math.MaxInt}}}}, {{Addr: 110, Seen: sightsOf(9, 8, 7)}},
		rising(97), rising(5000), rowOf(0, 0), rowOf(lastAddr, 0), rowOf(lastAddr, lastAddr), rowOf(5, 4, 3, 2, 1), rowOf(110, 100, 110, 120, 110),
		slices.Repeat(rowOf(110), 96), slices.Repeat(rowOf(110), 97), slices.Repeat([]api.Known{empty}, 96), slices.Repeat([]api.Known{empty}, 97), make([]api.Known, 1000),
	}
	for n := range 97 {
		lists = append(lists, withSeen(rising(max(1, n)), max(0, n-1), nil), withSeen(rising(max(1, n)), 0, nil))
	}
	for _, ks := range lists {
		checkRight(t, ks, false)
		for _, a := range []api.Addr{0, 1, 5, 95, 100, 105, 110, 115, 120, 1050, 2000, lastAddr} {
			seen.Of(ks, a)
			seen.Last(ks, a)
			for _, s := range []api.Sight{sightOf(0), sightOf(5), sightOf(math.MaxInt), sightOf(-1), {From: -1}, {From: 4}} {
				seen.Put(ks, a, s)
			}
			seen.Forget(ks, func(b api.Addr) bool { return b == a })
			seen.Forget(ks, func(b api.Addr) bool { return b != a })
		}
	}
}
