package seen_test

import (
	"math"
	"slices"
	"testing"

	"terrier/api"
	"terrier/seen"
)

const (
	maxKnown = 96
	maxSeen  = 8
	lastAddr = api.Addr(0xffffffff)
)

var wrongSources = []api.Source{-1, 4, 5, 256, 1 << 32, math.MinInt, math.MaxInt}

// sightOf has a source and a station that tell the tick.
func sightOf(at int) api.Sight {
	return api.Sight{From: api.Source(at & 3), Mac: api.Mac{2, 0, byte(at >> 24), byte(at >> 16), byte(at >> 8), byte(at)}, At: at}
}

func sightsOf(ats ...int) []api.Sight {
	var ss []api.Sight
	for _, at := range ats {
		ss = append(ss, sightOf(at))
	}
	return ss
}

// ticks has n sightings, of successive ticks.
func ticks(first, n int) []api.Sight {
	var ss []api.Sight
	for k := range n {
		ss = append(ss, sightOf(first+k))
	}
	return ss
}

// knownOf has one to eight sightings, which tell the address.
func knownOf(a api.Addr) api.Known {
	return api.Known{Addr: a, Seen: ticks(int(a)*3, 1+int(a/10)%maxSeen)}
}

func rowOf(as ...api.Addr) []api.Known {
	var ks []api.Known
	for _, a := range as {
		ks = append(ks, knownOf(a))
	}
	return ks
}

// rising has n addresses, 10 apart; between them, and on both sides, is room.
func rising(n int) []api.Known {
	var ks []api.Known
	for i := range n {
		ks = append(ks, knownOf(api.Addr(100+10*i)))
	}
	return ks
}

// deep is a copy that shares nothing.
func deep(ks []api.Known) []api.Known {
	var row []api.Known
	for _, k := range ks {
		row = append(row, api.Known{Addr: k.Addr, Seen: slices.Clone(k.Seen)})
	}
	return row
}

func equal(xs, ys []api.Known) bool {
	return slices.EqualFunc(xs, ys, func(x, y api.Known) bool { return x.Addr == y.Addr && slices.Equal(x.Seen, y.Seen) })
}

// withAddr is a list in which the one at a place has another address.
func withAddr(ks []api.Known, i int, a api.Addr) []api.Known {
	ks = deep(ks)
	ks[i].Addr = a
	return ks
}

// withSeen is a list in which the one at a place has other sightings.
func withSeen(ks []api.Known, i int, ss []api.Sight) []api.Known {
	ks = deep(ks)
	ks[i].Seen = slices.Clone(ss)
	return ks
}

// P12.1: Right

func checkRight(t *testing.T, ks []api.Known, want bool) {
	t.Helper()
	before := deep(ks)
	if got := seen.Right(ks); got != want {
		t.Fatalf("Right(%v) = %v", ks, got)
	}
	if !equal(ks, before) {
		t.Fatalf("Right changed %v to %v", before, ks)
	}
}

// checkSights asks for a list that has these sightings, at each of its places.
func checkSights(t *testing.T, ss []api.Sight, want bool) {
	t.Helper()
	for _, n := range []int{1, 2, 3, 96} {
		ks := rising(n)
		for i := range ks {
			checkRight(t, withSeen(ks, i, ss), want)
		}
	}
}

func TestRightOfSoMany(t *testing.T) {
	checkRight(t, nil, true)
	checkRight(t, []api.Known{}, true)
	for n := range 98 {
		checkRight(t, rising(n), n <= maxKnown)
	}
	for _, n := range []int{98, 100, 192, 193, 256, 1000} {
		checkRight(t, rising(n), false)
	}
}

func TestRightOfAddresses(t *testing.T) {
	for _, n := range []int{2, 3, 95, 96} {
		ks := rising(n)
		for i := 1; i < n; i++ {
			before := ks[i-1].Addr
			checkRight(t, withAddr(ks, i, before+1), true)
			checkRight(t, withAddr(ks, i, before), false)
			checkRight(t, withAddr(ks, i, before-1), false)
			checkRight(t, withAddr(ks, i, 0), false)
		}
		for i := range n - 1 {
			checkRight(t, withAddr(ks, i, ks[i+1].Addr-1), true)
			checkRight(t, withAddr(ks, i, ks[i+1].Addr), false)
			checkRight(t, withAddr(ks, i, ks[i+1].Addr+1), false)
			checkRight(t, withAddr(ks, i, lastAddr), false)
		}
		checkRight(t, withAddr(withAddr(ks, 0, 0), n-1, lastAddr), true)
		slices.Reverse(ks)
		checkRight(t, ks, false)
	}
	checkRight(t, rowOf(0), true)
	checkRight(t, rowOf(lastAddr), true)
	checkRight(t, rowOf(0, 0), false)
	checkRight(t, rowOf(lastAddr, lastAddr), false)
	checkRight(t, rowOf(lastAddr, 0), false)
	checkRight(t, rowOf(0x7fffffff, 0x80000000), true)
	checkRight(t, rowOf(0x80000000, 0x7fffffff), false)
}

// Every list of three out of six addresses.
func TestRightOfEveryThreeAddresses(t *testing.T) {
	as := []api.Addr{0, 1, 0x7fffffff, 0x80000000, lastAddr - 1, lastAddr}
	for i, a := range as {
		for j, b := range as {
			checkRight(t, rowOf(a, b), i < j)
			for k, c := range as {
				checkRight(t, rowOf(a, b, c), i < j && j < k)
			}
		}
	}
}

func TestRightOfSoManySightings(t *testing.T) {
	checkSights(t, nil, false)
	checkSights(t, []api.Sight{}, false)
	for n := range 12 {
		checkSights(t, ticks(5, n), n >= 1 && n <= maxSeen)
	}
	for _, n := range []int{16, 17, 256, 257} {
		checkSights(t, ticks(5, n), false)
	}
}

func TestRightOfSources(t *testing.T) {
	for _, n := range []int{1, 2, 3, 7, 8} {
		for i := range n {
			ss := ticks(5, n)
			for from := api.Source(0); from < 4; from++ {
				ss[i].From = from
				checkSights(t, ss, true)
			}
			for _, from := range wrongSources {
				ss[i].From = from
				checkSights(t, ss, false)
			}
		}
	}
}

func TestRightOfTicks(t *testing.T) {
	for _, n := range []int{1, 2, 3, 7, 8} {
		ss := ticks(10, n)
		for i := range n {
			checkAt := func(at int, want bool) {
				t.Helper()
				other := slices.Clone(ss)
				other[i].At = at
				checkSights(t, other, want)
			}
			checkAt(-1, false)
			checkAt(math.MinInt, false)
			checkAt(0, i == 0)
			checkAt(math.MaxInt, i == n-1)
			checkAt(api.MaxTick, i == n-1)
			checkAt(api.MaxTick+1, i == n-1)
			if i > 0 {
				checkAt(ss[i-1].At, true)
				checkAt(ss[i-1].At-1, false)
			}
			if i < n-1 {
				checkAt(ss[i+1].At, true)
				checkAt(ss[i+1].At+1, false)
			}
		}
		for _, at := range []int{-1, math.MinInt, 0, 1, math.MaxInt} {
			checkSights(t, slices.Repeat(sightsOf(at), n), at >= 0)
		}
	}
}

// Every list of two sightings out of these sources and ticks, and every three ticks.
func TestRightOfEveryTwoAndThreeSightings(t *testing.T) {
	ats := []int{math.MinInt, -2, -1, 0, 1, 2, math.MaxInt}
	froms := []api.Source{-1, 0, 1, 2, 3, 4}
	for i, a := range ats {
		for j, b := range ats {
			for _, f := range froms {
				for _, g := range froms {
					ss := []api.Sight{{From: f, At: a}, {From: g, At: b}}
					want := a >= 0 && i <= j && f >= 0 && f < 4 && g >= 0 && g < 4
					checkRight(t, []api.Known{{Addr: 7, Seen: ss}}, want)
				}
			}
			for k, c := range ats {
				ss := []api.Sight{{At: a}, {At: b}, {At: c}}
				checkRight(t, []api.Known{{Addr: 7, Seen: ss}}, a >= 0 && i <= j && j <= k)
			}
		}
	}
}

// The ticks of an address are held against its own only.
func TestRightOfTicksOfTwoAddresses(t *testing.T) {
	for _, ats := range [][2]int{{0, 0}, {5, 4}, {5, 0}, {math.MaxInt, 0}, {0, math.MaxInt}} {
		checkRight(t, []api.Known{{Addr: 1, Seen: sightsOf(ats[0])}, {Addr: 2, Seen: sightsOf(ats[1])}}, true)
	}
	checkRight(t, []api.Known{{Addr: 1, Seen: sightsOf(5)}, {Addr: 2, Seen: sightsOf(-1)}}, false)
	checkRight(t, []api.Known{{Addr: 1, Seen: sightsOf(-1)}, {Addr: 2, Seen: sightsOf(5)}}, false)
}

func TestRightOfAnyStation(t *testing.T) {
	for _, m := range []api.Mac{{}, {1, 2, 3, 4, 5, 6}, {255, 255, 255, 255, 255, 255}} {
		checkSights(t, []api.Sight{{Mac: m}, {From: api.Lease, Mac: m, At: 9}}, true)
	}
}

// P12.1: Of and Last

func checkOf(t *testing.T, ks []api.Known, a api.Addr, want []api.Sight) {
	t.Helper()
	given, all := laidOut(ks)
	before := all.copied()
	got := seen.Of(given, a)
	again := seen.Of(given, a)
	if !slices.Equal(got, want) || !slices.Equal(again, want) {
		t.Fatalf("Of(%v, %d) = %v, and %v, want %v", ks, a, got, again, want)
	}
	fillSights(got)
	if !slices.Equal(again, want) {
		t.Fatalf("two answers of Of(%v, %d) share memory", ks, a)
	}
	if !all.equal(before) {
		t.Fatalf("Of(%v, %d) has it be %v", ks, a, given)
	}
	all.fill()
	if !slices.Equal(again, want) {
		t.Fatalf("Of(%v, %d) answers memory that was given", ks, a)
	}
}

func checkLast(t *testing.T, ks []api.Known, a api.Addr, want int, wantOK bool) {
	t.Helper()
	before := deep(ks)
	if at, ok := seen.Last(ks, a); at != want || ok != wantOK {
		t.Fatalf("Last(%v, %d) = %d, %v, want %d, %v", ks, a, at, ok, want, wantOK)
	}
	if !equal(ks, before) {
		t.Fatalf("Last changed %v to %v", before, ks)
	}
}

// checkSeen asks for the sightings of an address, and when the last one was.
func checkSeen(t *testing.T, ks []api.Known, a api.Addr, want []api.Sight) {
	t.Helper()
	checkOf(t, ks, a, want)
	if len(want) == 0 {
		checkLast(t, ks, a, 0, false)
		return
	}
	checkLast(t, ks, a, want[len(want)-1].At, true)
}

func TestOfAndLast(t *testing.T) {
	for _, n := range []int{0, 1, 2, 3, 95, 96} {
		ks := rising(n)
		for _, k := range ks {
			checkSeen(t, ks, k.Addr, k.Seen)
			checkSeen(t, ks, k.Addr-1, nil)
			checkSeen(t, ks, k.Addr+1, nil)
			checkSeen(t, ks, k.Addr+1<<16, nil)
			checkSeen(t, ks, k.Addr|1<<31, nil)
		}
		checkSeen(t, ks, 0, nil)
		checkSeen(t, ks, lastAddr, nil)
	}
	checkSeen(t, nil, 0, nil)
	checkSeen(t, []api.Known{}, lastAddr, nil)
}

func TestOfAndLastOfTheFirstAndTheLastAddress(t *testing.T) {
	both := rowOf(0, lastAddr)
	checkSeen(t, both, 0, both[0].Seen)
	checkSeen(t, both, lastAddr, both[1].Seen)
	checkSeen(t, both, 1, nil)
	checkSeen(t, both, lastAddr-1, nil)
	checkSeen(t, rowOf(0), lastAddr, nil)
	checkSeen(t, rowOf(lastAddr), 0, nil)
	checkSeen(t, rowOf(1, lastAddr-1), 0, nil)
	checkSeen(t, rowOf(1, lastAddr-1), lastAddr, nil)
}

// Addresses that differ from the one that is known in one bit, below it and above it.
func TestOfAndLastOfAnAddressWithAnotherBit(t *testing.T) {
	for _, a := range []api.Addr{0, 0x0a000001, 0x55555555, 0xaaaaaaaa, lastAddr} {
		ks := rowOf(a)
		for bit := range 32 {
			checkSeen(t, ks, a^1<<bit, nil)
		}
		checkSeen(t, ks, a, ks[0].Seen)
	}
}

func TestOfAndLastOfSoManySightings(t *testing.T) {
	for n := 1; n <= maxSeen; n++ {
		for _, first := range []int{0, 1, api.MaxTick, math.MaxInt - 7} {
			ks := withSeen(rising(3), 1, ticks(first, n))
			checkSeen(t, ks, 110, ticks(first, n))
		}
		same := slices.Repeat(sightsOf(0), n)
		checkSeen(t, withSeen(rising(3), 1, same), 110, same)
	}
}
