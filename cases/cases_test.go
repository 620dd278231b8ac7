package cases_test

import (
	"math"
	"slices"
	"testing"

	"terrier/api"
	"terrier/cases"
)

const (
	maxCases = 16
	lastTick = 1 << 40
	lastAddr = api.Addr(0xffffffff)
	first    = api.Addr(0x0a010005)
)

// ticks are some that may be, and some that may not; the others are taken for the nearest one.
var (
	goodTicks = []int{0, 1, 2, 7, 1 << 16, 1 << 32, lastTick - 1, lastTick}
	lowTicks  = []int{-1, -2, -7, -1 << 16, -1 << 32, -lastTick, -lastTick - 1, math.MinInt + 1, math.MinInt}
	highTicks = []int{lastTick + 1, lastTick + 2, 1 << 41, 1 << 41 * 3, 1 << 62, math.MaxInt - 1, math.MaxInt}
)

// The stages by their numbers, so that an order of them that is taken for granted is seen.
var (
	stages       = []api.Stage{0, 1, 2, 3, 4, 5}
	openStages   = []api.Stage{api.Raised, api.Approved}
	closedStages = []api.Stage{api.Rejected, api.Expired, api.Cancelled, api.Done}
	oddStages    = []api.Stage{-1, -2, -1 << 32, math.MinInt, 6, 7, 8, 256, 1 << 32, 1<<32 + 1, math.MaxInt}
)

func isOpen(s api.Stage) bool { return slices.Contains(openStages, s) }

// list is a row of cases, written out.
func list(cs ...api.Case) []api.Case { return cs }

// open is a case that goes on.
func open(a api.Addr, raised int, s api.Stage) api.Case {
	return api.Case{Addr: a, Raised: raised, Stage: s}
}

// over is a case that has ended.
func over(a api.Addr, raised, ended int, s api.Stage) api.Case {
	return api.Case{Addr: a, Raised: raised, Ended: ended, Stage: s}
}

// someAt is a case of a stage, with numbers that tell the address.
func someAt(a api.Addr, s api.Stage) api.Case {
	c := open(a, 3+int(a)%89, s)
	if !isOpen(s) {
		c.Ended = c.Raised + int(a)%7
	}
	return c
}

// spread is the address of a place: unlike ones, in no order.
func spread(i int) api.Addr { return first + api.Addr(i)*0x9e3779b1 }

// apart has n cases of unlike addresses, whose stages are the ones that are given, in turn.
func apart(n int, in ...api.Stage) []api.Case {
	var cs []api.Case
	for i := range n {
		cs = append(cs, someAt(spread(i), in[i*5%len(in)]))
	}
	return cs
}

// at is a list in which another case stands at a place.
func at(cs []api.Case, i int, c api.Case) []api.Case {
	cs = slices.Clone(cs)
	cs[i] = c
	return cs
}

// changed is a list in which the case at a place is changed.
func changed(cs []api.Case, i int, change func(c *api.Case)) []api.Case {
	c := cs[i]
	change(&c)
	return at(cs, i, c)
}

func checkRight(t *testing.T, cs []api.Case, want bool) {
	t.Helper()
	before := slices.Clone(cs)
	for range 2 {
		if got := cases.Right(cs); got != want {
			t.Errorf("Right(%v) = %v", cs, got)
		}
	}
	if !slices.Equal(cs, before) {
		t.Errorf("Right changed %v to %v", before, cs)
	}
}

// checkEach has each case of several lists that goes on, or that has ended, in turn, be changed.
func checkEach(t *testing.T, goesOn bool, change func(c *api.Case), want bool) {
	t.Helper()
	for _, n := range []int{1, 2, 3, 15, 16} {
		for turn := range 6 {
			in := slices.Concat(stages[turn:], stages[:turn])
			for i, c := range apart(n, in...) {
				if isOpen(c.Stage) == goesOn {
					checkRight(t, changed(apart(n, in...), i, change), want)
				}
			}
		}
	}
}

// The numbers of the stages are those that a state is kept by.
func TestStages(t *testing.T) {
	if !slices.Equal(stages, []api.Stage{api.Raised, api.Approved, api.Rejected, api.Expired, api.Cancelled, api.Done}) {
		t.Error("the six stages are others")
	}
}

// P16.1: Right

func TestRightByLength(t *testing.T) {
	checkRight(t, nil, true)
	checkRight(t, []api.Case{}, true)
	for _, n := range []int{0, 1, 2, 3, 14, 15, 16, 17, 18, 31, 32, 33, 1000} {
		checkRight(t, apart(n, stages...), n <= maxCases)
		checkRight(t, apart(n, openStages...), n <= maxCases)
		checkRight(t, apart(n, closedStages...), n <= maxCases)
		for _, s := range stages {
			checkRight(t, apart(n, s), n <= maxCases)
		}
		// Those of one address count, too.
		same := make([]api.Case, n)
		for i := range same {
			same[i] = over(9, 5, 5+i, api.Cancelled)
		}
		checkRight(t, same, n <= maxCases)
		checkRight(t, append(same, open(9, 5, api.Raised)), n < maxCases)
	}
}

// The list may have room behind it, with cases that do not count.
func TestRightOfTheListOnly(t *testing.T) {
	cs := append(apart(16, stages...), make([]api.Case, 9)...)
	for n := range 17 {
		checkRight(t, cs[:n], true)
	}
	checkRight(t, cs[:17], false)
	double := append(apart(3, api.Raised), apart(3, api.Approved)...)
	checkRight(t, double[:3], true)
	checkRight(t, double[3:], true)
	checkRight(t, double[1:4], true)
	checkRight(t, double[:4], false)
}

// Two of one address: wherever they stand, not both go on.
func TestRightByAddresses(t *testing.T) {
	for _, n := range []int{2, 3, 5, 15, 16} {
		for _, in := range [][]api.Stage{openStages, closedStages, stages} {
			for i := range n {
				for j := range n {
					if i == j {
						continue
					}
					for _, s := range stages {
						for _, u := range stages {
							cs := at(at(apart(n, in...), i, someAt(first-9, s)), j, someAt(first-9, u))
							checkRight(t, cs, !isOpen(s) || !isOpen(u))
						}
					}
				}
			}
		}
	}
}

// They differ in all that two open ones can differ in.
func TestRightOfTwoOpenCasesThatAreUnlike(t *testing.T) {
	for _, between := range []int{0, 1, 13} {
		for _, s := range openStages {
			for _, u := range openStages {
				cs := slices.Concat(list(open(5, 2, s)), apart(between, stages...), list(open(5, 3, u)))
				checkRight(t, cs, false)
				checkRight(t, cs[1:], true)
				checkRight(t, cs[:len(cs)-1], true)
			}
		}
	}
	checkRight(t, list(open(5, 2, api.Raised), open(5, 2, api.Raised), open(5, 2, api.Raised)), false)
}

// An open one beside closed ones of its address, before it, behind it, or both.
func TestRightOfAnOpenCaseBesideClosedOnes(t *testing.T) {
	for _, s := range openStages {
		for i := range 16 {
			cs := make([]api.Case, 16)
			for j := range cs {
				cs[j] = over(first, j, 2*j, closedStages[j%4])
			}
			cs[i] = open(first, 20, s)
			checkRight(t, cs, true)
			for j := range 16 {
				if i != j {
					checkRight(t, at(cs, j, open(first, 20, api.Raised)), false)
					checkRight(t, at(cs, j, open(first, 21, api.Approved)), false)
					checkRight(t, at(cs, j, open(first+1, 21, api.Approved)), true)
				}
			}
		}
	}
}

// Each two addresses are unlike, in one bit or in all; the order does not count.
func TestRightByBitsOfAddresses(t *testing.T) {
	row := func(as ...api.Addr) []api.Case {
		var cs []api.Case
		for i, a := range as {
			cs = append(cs, open(a, 7, openStages[i%2]))
		}
		return cs
	}
	for bit := range 32 {
		a := first ^ 1<<bit
		checkRight(t, row(first, a), true)
		checkRight(t, row(a, first), true)
		checkRight(t, row(first, a, first), false)
		checkRight(t, row(a, first, a), false)
		checkRight(t, row(first, first, a), false)
		checkRight(t, row(a, first, first), false)
	}
	checkRight(t, row(0, lastAddr, 0x80000000, 0x7fffffff, 1), true)
	checkRight(t, row(lastAddr, 1, 0), true)
	checkRight(t, row(0, 0), false)
	checkRight(t, row(0, lastAddr, 0), false)
	checkRight(t, row(lastAddr, 0, lastAddr), false)
}

func TestRightByStage(t *testing.T) {
	for s := api.Stage(-20); s <= 300; s++ {
		checkRight(t, list(api.Case{Stage: s}), s >= 0 && s <= 5)
		checkRight(t, list(api.Case{Addr: 4, Raised: 7, Stage: s}), s == 0 || s == 1)
		checkRight(t, list(api.Case{Addr: 4, Raised: 7, Ended: 9, Stage: s}), s >= 2 && s <= 5)
	}
	for _, s := range oddStages {
		checkEach(t, true, func(c *api.Case) { c.Stage = s }, false)
		checkEach(t, false, func(c *api.Case) { c.Stage = s }, false)
	}
	for _, s := range openStages {
		checkEach(t, true, func(c *api.Case) { c.Stage = s }, true)
	}
	for _, s := range closedStages {
		checkEach(t, false, func(c *api.Case) { c.Stage = s }, true)
	}
}

func TestRightByRaised(t *testing.T) {
	for _, tick := range goodTicks {
		checkEach(t, true, func(c *api.Case) { c.Raised = tick }, true)
		checkEach(t, false, func(c *api.Case) { c.Raised, c.Ended = tick, lastTick }, true)
	}
	for _, tick := range lowTicks {
		checkEach(t, true, func(c *api.Case) { c.Raised = tick }, false)
		for _, ended := range []int{0, 9, lastTick} {
			checkEach(t, false, func(c *api.Case) { c.Raised, c.Ended = tick, ended }, false)
		}
	}
	for _, tick := range highTicks {
		checkEach(t, true, func(c *api.Case) { c.Raised = tick }, false)
		for _, ended := range []int{lastTick, tick, math.MaxInt} {
			checkEach(t, false, func(c *api.Case) { c.Raised, c.Ended = tick, ended }, false)
		}
	}
}

func TestRightByEndedOfAnOpenCase(t *testing.T) {
	for _, raised := range goodTicks {
		checkEach(t, true, func(c *api.Case) { c.Raised, c.Ended = raised, 0 }, true)
		for _, ended := range slices.Concat(goodTicks[1:], lowTicks, highTicks, []int{raised - 1, raised, raised + 1}) {
			if ended != 0 {
				checkEach(t, true, func(c *api.Case) { c.Raised, c.Ended = raised, ended }, false)
			}
		}
	}
}

func TestRightByEndedOfAClosedCase(t *testing.T) {
	for _, raised := range goodTicks {
		for _, ended := range slices.Concat(goodTicks, []int{raised - 2, raised - 1, raised, raised + 1, raised + 2}) {
			right := ended >= raised && ended <= lastTick
			checkEach(t, false, func(c *api.Case) { c.Raised, c.Ended = raised, ended }, right)
		}
		for _, ended := range slices.Concat(lowTicks, highTicks) {
			checkEach(t, false, func(c *api.Case) { c.Raised, c.Ended = raised, ended }, false)
		}
	}
}

func TestRightWithSeveralFaults(t *testing.T) {
	checkRight(t, make([]api.Case, 1), true)
	checkRight(t, make([]api.Case, 2), false)
	checkRight(t, make([]api.Case, 17), false)
	checkRight(t, changed(apart(17, stages...), 16, func(c *api.Case) { c.Stage = -1 }), false)
	checkRight(t, list(api.Case{Addr: 5, Raised: -1, Ended: -2, Stage: 6}), false)
	// A case of no stage there is does not go on, and the list is wrong all the same.
	checkRight(t, list(open(5, 0, 6), open(5, 0, api.Raised)), false)
}

// P16.1: Open

func TestOpen(t *testing.T) {
	numbers := slices.Concat(goodTicks, lowTicks, highTicks)
	for _, s := range slices.Concat(stages, oddStages) {
		want := s == api.Raised || s == api.Approved
		for _, a := range []api.Addr{0, 1, first, lastAddr} {
			for _, raised := range numbers {
				for _, ended := range numbers { // they do not count
					c := over(a, raised, ended, s)
					if got := cases.Open(c); got != want {
						t.Errorf("Open(%v) = %v", c, got)
					}
				}
			}
		}
	}
	for s := api.Stage(-300); s <= 300; s++ {
		if got := cases.Open(api.Case{Stage: s}); got != (s == 0 || s == 1) {
			t.Errorf("Open is %v of the stage %d", got, s)
		}
	}
}

// P16.1: Find

func checkFind(t *testing.T, cs []api.Case, a api.Addr, want int) {
	t.Helper()
	before := slices.Clone(cs)
	for range 2 {
		if got := cases.Find(cs, a); got != want {
			t.Errorf("Find(%v, %x) = %d, want %d", cs, a, got, want)
		}
	}
	if !slices.Equal(cs, before) {
		t.Errorf("Find changed %v to %v", before, cs)
	}
}

func TestFind(t *testing.T) {
	for _, a := range []api.Addr{0, 1, first, lastAddr} {
		checkFind(t, nil, a, -1)
		checkFind(t, []api.Case{}, a, -1)
	}
	for n := 1; n <= 16; n++ {
		for _, in := range [][]api.Stage{openStages, closedStages, stages, {api.Raised}, {api.Approved}} {
			cs := apart(n, in...)
			for i, c := range cs {
				want := -1
				if isOpen(c.Stage) {
					want = i
				}
				checkFind(t, cs, c.Addr, want)
				for bit := range 32 {
					checkFind(t, cs, c.Addr^1<<bit, -1)
				}
			}
			for _, a := range []api.Addr{0, 1, first - 1, lastAddr} {
				checkFind(t, cs, a, -1)
			}
		}
	}
}

// An open one is the first, the last, or one between, and the others of its address, or of any, are closed.
func TestFindAmongClosedCases(t *testing.T) {
	for _, n := range []int{1, 2, 3, 15, 16} {
		var same []api.Case
		for j := range n {
			same = append(same, over(first, j, 2*j, closedStages[j%4]))
		}
		checkFind(t, same, first, -1)
		for i := range n {
			for _, s := range openStages {
				checkFind(t, at(same, i, open(first, 30, s)), first, i)
				checkFind(t, at(same, i, open(first+1, 30, s)), first, -1)
				checkFind(t, at(same, i, open(first+1, 30, s)), first+1, i)
				checkFind(t, at(apart(n, closedStages...), i, open(9, 30, s)), 9, i)
			}
			for _, s := range slices.Concat(closedStages, oddStages) {
				checkFind(t, at(same, i, open(first, 30, s)), first, -1)
			}
		}
	}
}

// In a list that is not valid, several go on: the first one is found.
func TestFindOfSeveralOpenCases(t *testing.T) {
	for i := range 6 {
		for j := range 6 {
			cs := apart(6, stages...)
			for _, s := range openStages {
				for _, u := range openStages {
					checkFind(t, at(at(cs, i, open(9, 7, s)), j, open(9, 5, u)), 9, min(i, j))
				}
			}
		}
	}
	checkFind(t, apart(100, openStages...), spread(90), 90)
	checkFind(t, list(over(5, 9, 7, 6), over(5, -1, -2, api.Approved), open(5, 0, api.Raised)), 5, 1)
	cs := apart(6, api.Raised)
	checkFind(t, cs[:3], spread(3), -1)
	checkFind(t, cs[2:4], spread(3), 1)
}
