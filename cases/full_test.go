package cases_test

import (
	"math"
	"testing"

	"terrier/api"
)

// P16.2: a list that is full

// bars are cases none of which may go at 50, with a Quiet of 10.
func bars() []api.Case {
	cs := apart(16, openStages...)
	for i := 1; i < 16; i += 3 {
		cs[i] = over(spread(i), 5, 41+i*7%10, api.Rejected)
	}
	return cs
}

func TestRaiseWhereNoneMayGo(t *testing.T) {
	var quiet []api.Case
	for i := range 16 {
		quiet = append(quiet, over(spread(i), 5, 41+i*7%10, api.Rejected))
	}
	for _, cs := range [][]api.Case{apart(16, api.Raised), apart(16, api.Approved), apart(16, openStages...), bars(), quiet} {
		checkRight(t, cs, true)
		for _, a := range []api.Addr{0, 1, first - 1, first ^ 1<<31, lastAddr} {
			checkRaise(t, 10, cs, a, 50, nil, api.ErrFull)
		}
		// The list is full, and the address is in it: the earlier error.
		for _, c := range cs {
			if isOpen(c.Stage) {
				checkRaise(t, 10, cs, c.Addr, 50, nil, api.ErrTaken)
			} else {
				checkRaise(t, 10, cs, c.Addr, 50, nil, api.ErrState)
			}
		}
		// One fewer, and there is room.
		checkRaise(t, 10, cs[:15], 9, 50, with(cs[:15], open(9, 50, api.Raised)), 0)
		checkRaise(t, 10, cs[1:], 9, 50, with(cs[1:], open(9, 50, api.Raised)), 0)
	}
}

// Those that are quiet of the address that is raised, in a list where others may go.
func TestRaiseOfAQuietAddressInAFullList(t *testing.T) {
	for i := range 16 {
		cs := at(apart(16, closedStages[1:]...), i, over(77, 9, 41, api.Rejected))
		checkRaise(t, 10, cs, 77, 50, nil, api.ErrState)
		cs = at(apart(16, closedStages[1:]...), i, open(77, 9, api.Approved))
		checkRaise(t, 10, cs, 77, 50, nil, api.ErrTaken)
	}
}

// One alone may go, at each place, of each stage: also one that ended as late as can be.
func TestRaiseWhereOneMayGo(t *testing.T) {
	for i := range 16 {
		for _, c := range []api.Case{
			over(77, 9, 9, api.Expired), over(77, 9, 50, api.Cancelled), over(77, 9, 49, api.Done), over(77, 9, lastTick, api.Done),
			over(77, 9, 40, api.Rejected), over(77, 9, 9, api.Rejected), over(77, 9, 51, api.Rejected), over(77, 0, 0, api.Rejected), over(77, 0, 0, api.Done),
		} {
			for _, others := range [][]api.Case{apart(16, openStages...), bars()} {
				cs := at(others, i, c)
				want := with(without(cs, i), open(5, 50, api.Raised))
				checkRaise(t, 10, cs, 5, 50, want, 0)
				checkRight(t, want, true)
				checkRaise(t, 10, cs, 77, 50, with(without(cs, i), open(77, 50, api.Raised)), 0)
			}
		}
		// Just quiet still, at the first tick and at the last one.
		for _, ended := range []int{41, 50} {
			checkRaise(t, 10, at(bars(), i, over(77, 9, ended, api.Rejected)), 5, 50, nil, api.ErrFull)
		}
	}
}

// Several may go: the one that ended first goes, and not the first one, nor the one that was raised first.
func TestRaiseWhereSeveralMayGo(t *testing.T) {
	for i := range 16 {
		for j := range 16 {
			if i == j {
				continue
			}
			for _, s := range closedStages {
				for _, u := range closedStages {
					cs := at(at(bars(), i, over(77, 20, 30, s)), j, over(78, 10, 31, u))
					checkRaise(t, 10, cs, 5, 50, with(without(cs, i), open(5, 50, api.Raised)), 0)
					// With the same Ended, it is the first one.
					cs = at(at(bars(), i, over(77, 20, 30, s)), j, over(78, 10, 30, u))
					checkRaise(t, 10, cs, 5, 50, with(without(cs, min(i, j)), open(5, 50, api.Raised)), 0)
				}
			}
		}
	}
}

// All may go, and they ended in every order, or some at once.
func TestRaiseWhereAllMayGo(t *testing.T) {
	for low := range 16 {
		for step := 1; step < 16; step += 2 {
			cs := apart(16, closedStages...)
			for i := range cs {
				cs[i].Raised, cs[i].Ended = 16-i, 20+(i*step+low)%16
			}
			for i := range cs {
				if cs[i].Ended == 20 {
					checkRaise(t, 10, cs, 5, 50, with(without(cs, i), open(5, 50, api.Raised)), 0)
				}
			}
		}
		cs := apart(16, closedStages...)
		for i := range cs {
			cs[i].Raised, cs[i].Ended = 3, 30
		}
		checkRaise(t, 10, cs, 5, 50, with(cs[1:], open(5, 50, api.Raised)), 0)
		for i := low; i < 16; i += 3 {
			cs[i].Ended = 29
		}
		checkRaise(t, 10, cs, 5, 50, with(without(cs, low), open(5, 50, api.Raised)), 0)
	}
}

// A quiet one is kept, though it ended first of all; so is an open one, whose Ended is 0.
func TestRaiseKeepsThoseThatEndedEarlier(t *testing.T) {
	cs := apart(16, openStages...)
	cs[2], cs[5], cs[9] = over(77, 5, 41, api.Rejected), over(78, 5, 45, api.Expired), over(79, 5, 43, api.Done)
	checkRaise(t, 10, cs, 5, 50, with(without(cs, 9), open(5, 50, api.Raised)), 0)
	checkRaise(t, 9, cs, 5, 50, with(without(cs, 2), open(5, 50, api.Raised)), 0)
	cs[9] = over(79, 5, 46, api.Done)
	checkRaise(t, 10, cs, 5, 50, with(without(cs, 5), open(5, 50, api.Raised)), 0)
	cs[9] = over(79, 5, 45, api.Done)
	checkRaise(t, 10, cs, 5, 50, with(without(cs, 5), open(5, 50, api.Raised)), 0)
}

// With a Quiet of 0 nothing is quiet: what was rejected just now may go.
func TestRaiseWithAQuietOf0(t *testing.T) {
	for _, ended := range []int{9, 49, 50, 51} {
		c := over(77, 9, ended, api.Rejected)
		checkRaise(t, 0, list(c), 77, 50, list(c, open(77, 50, api.Raised)), 0)
		for _, i := range []int{0, 8, 15} {
			cs := at(apart(16, openStages...), i, c)
			checkRaise(t, 0, cs, 5, 50, with(without(cs, i), open(5, 50, api.Raised)), 0)
			checkRaise(t, 0, cs, 77, 50, with(without(cs, i), open(77, 50, api.Raised)), 0)
		}
	}
	checkRaise(t, 0, apart(16, openStages...), 5, 50, nil, api.ErrFull)
	checkRaise(t, 0, nil, 5, 50, list(open(5, 50, api.Raised)), 0)
}

// Closed cases of the address that is raised go like those of any other, and stay like those of any other.
func TestRaiseInAFullListOfOneAddress(t *testing.T) {
	var cs []api.Case
	for i := range 16 {
		cs = append(cs, over(77, 5, 5+i*7%16, closedStages[i%4]))
	}
	checkRaise(t, 10, cs, 77, 50, with(cs[1:], open(77, 50, api.Raised)), 0)
	cs[0].Ended = 30
	checkRaise(t, 10, cs, 77, 50, with(without(cs, 7), open(77, 50, api.Raised)), 0)
	cs[3] = over(77, 5, 41, api.Rejected)
	checkRaise(t, 10, cs, 77, 50, nil, api.ErrState)
}

func TestRaiseAtTheEndsInAFullList(t *testing.T) {
	for _, now := range append(highTicks, lastTick) {
		cs := at(apart(16, openStages...), 6, over(77, 0, lastTick-9, api.Rejected))
		checkRaise(t, 10, cs, 5, now, nil, api.ErrFull)
		cs[6].Ended--
		checkRaise(t, 10, cs, 5, now, with(without(cs, 6), open(5, lastTick, api.Raised)), 0)
	}
	for _, now := range append(lowTicks, 0) {
		cs := at(apart(16, openStages...), 6, over(77, 0, 0, api.Rejected))
		checkRaise(t, 10, cs, 5, now, nil, api.ErrFull)
		cs[6].Ended = 1
		checkRaise(t, 10, cs, 5, now, with(without(cs, 6), open(5, 0, api.Raised)), 0)
	}
}

// Lists and numbers that are not valid, where the promise says what is answered.
func TestRaiseWithListsThatAreNotValid(t *testing.T) {
	// Of more than 16 cases one goes, and the new one is behind the others.
	for _, n := range []int{17, 18, 100} {
		cs := apart(n, openStages...)
		checkRaise(t, 10, cs, 5, 50, nil, api.ErrFull)
		for _, i := range []int{0, 7, 15, 16, n - 1} {
			one := at(cs, i, over(77, 5, 20, api.Done))
			checkRaise(t, 10, one, 5, 50, with(without(one, i), open(5, 50, api.Raised)), 0)
		}
	}
	// A case of no stage there is does not go on, and is not quiet: it may go. What it says of its end is taken as it is.
	for _, s := range oddStages {
		for _, ended := range []int{math.MinInt, -1, 0, 19} {
			cs := at(at(apart(16, openStages...), 11, over(77, 5, ended, s)), 4, over(78, 5, 20, api.Done))
			checkRaise(t, 10, cs, 5, 50, with(without(cs, 11), open(5, 50, api.Raised)), 0)
		}
		for _, ended := range []int{21, lastTick + 1, math.MaxInt} {
			cs := at(at(apart(16, openStages...), 1, over(77, 5, ended, s)), 4, over(78, 5, 20, api.Done))
			checkRaise(t, 10, cs, 5, 50, with(without(cs, 4), open(5, 50, api.Raised)), 0)
		}
	}
	cs := at(at(apart(16, openStages...), 3, over(77, 5, -1, api.Done)), 9, over(78, 5, -2, api.Expired))
	checkRaise(t, 10, cs, 5, 50, with(without(cs, 9), open(5, 50, api.Raised)), 0)
	cs = at(at(apart(16, openStages...), 3, over(77, 5, lastTick+2, api.Done)), 9, over(78, 5, lastTick+1, api.Expired))
	checkRaise(t, 10, cs, 5, 50, with(without(cs, 9), open(5, 50, api.Raised)), 0)
	// Whether one is quiet goes by the Clamp of its end, and a Quiet below 0 is as one of 0.
	for _, ended := range lowTicks {
		c := over(77, 5, ended, api.Rejected)
		checkRaise(t, 10, list(c), 77, 9, nil, api.ErrState)
		checkRaise(t, 10, list(c), 77, 10, list(c, open(77, 10, api.Raised)), 0)
	}
	for _, ended := range highTicks {
		c := over(77, 5, ended, api.Rejected)
		checkRaise(t, 10, list(c), 77, lastTick, nil, api.ErrState)
		checkRaise(t, 10, list(c), 77, lastTick-1, list(c, open(77, lastTick-1, api.Raised)), 0)
	}
	c := over(77, 5, 50, api.Rejected)
	for _, quiet := range []int{-1, -10, math.MinInt} {
		checkRaise(t, quiet, list(c), 77, 50, list(c, open(77, 50, api.Raised)), 0)
	}
	checkRaise(t, math.MaxInt, list(c), 77, lastTick, nil, api.ErrState)
	checkRaise(t, math.MaxInt, list(c), 77, 49, list(c, open(77, 49, api.Raised)), 0)
	// An open case whose Ended is not 0 goes on, and stays.
	checkRaise(t, 10, at(apart(16, openStages...), 2, over(77, 5, 20, api.Raised)), 5, 50, nil, api.ErrFull)
	checkRaise(t, 10, list(over(77, 5, 20, api.Approved)), 77, 50, nil, api.ErrTaken)
}
