package cases_test

import (
	"math"
	"slices"
	"testing"

	"terrier/api"
	"terrier/cases"
)

// lasting has an Open, and elsewhere numbers that would be seen in an answer if they counted.
func lasting(open int) api.Config {
	return api.Config{Fresh: 4, Old: 6, Need: 1, Every: 2, Rate: 1, Wait: 3, Again: 2, Open: open, Quiet: 7}
}

func checkTick(t *testing.T, lasts int, cs []api.Case, now int, want []api.Case) {
	t.Helper()
	tick := func(cs []api.Case) ([]api.Case, api.Errno) { return cases.Tick(lasting(lasts), cs, now), 0 }
	checkCall(t, "Tick", cs, tick, want, 0)
}

// checkTickAt asks for what becomes of one case, by itself and at unlike places among others that stay as they are.
func checkTickAt(t *testing.T, lasts int, c api.Case, now int, want api.Case) {
	t.Helper()
	checkTick(t, lasts, list(c), now, list(want))
	for _, n := range []int{2, 3, 15, 16} {
		for _, s := range []api.Stage{api.Approved, api.Rejected, api.Done} {
			cs := apart(n, s)
			for _, i := range []int{0, n / 2, n - 1} {
				checkTick(t, lasts, at(cs, i, c), now, at(cs, i, want))
			}
		}
	}
}

// P16.4

func TestTickOfNothing(t *testing.T) {
	for _, now := range []int{math.MinInt, -1, 0, 1, lastTick, math.MaxInt} {
		for _, lasts := range []int{math.MinInt, -1, 0, 1, 5, math.MaxInt} {
			checkTick(t, lasts, nil, now, nil)
			checkTick(t, lasts, []api.Case{}, now, nil)
		}
	}
}

// By how many ticks ago it was raised: up to Open it stays, and from there on it is over.
func TestTickByOpen(t *testing.T) {
	for _, lasts := range []int{1, 2, 3, 50, 1000, 1 << 20, 1 << 38} {
		for _, raised := range []int{0, 1, 2, 97, 1 << 32} {
			c := open(77, raised, api.Raised)
			for _, ago := range []int{0, 1, lasts / 2, lasts - 2, lasts - 1} {
				if ago >= 0 && ago < lasts {
					checkTickAt(t, lasts, c, raised+ago, c)
				}
			}
			for _, ago := range []int{lasts, lasts + 1, lasts + 2, 2 * lasts} {
				want := over(77, raised, raised+ago, api.Expired)
				checkTickAt(t, lasts, c, raised+ago, want)
				checkRight(t, list(want), true)
			}
		}
	}
}

// One that was raised at a tick ahead stays.
func TestTickOfATickAhead(t *testing.T) {
	for _, lasts := range []int{1, 2, 3, 50} {
		for _, now := range []int{0, 1, 2, 9, 100, lastTick - 9} {
			for _, ahead := range []int{1, 2, lasts, lasts + 1, 2*lasts + 1, lastTick - now} {
				c := open(77, min(now+ahead, lastTick), api.Raised)
				checkTickAt(t, lasts, c, now, c)
			}
		}
	}
}

// Only those that are raised are over, whatever their age; whoever approved one has it stay.
func TestTickOfOtherStages(t *testing.T) {
	for _, s := range slices.Concat(stages[1:], oddStages) {
		for _, now := range []int{0, 9, 13, 14, 15, 16, 1000, lastTick} {
			for _, c := range []api.Case{open(77, 9, s), over(77, 9, 9, s), over(77, 9, 14, s), over(77, 9, lastTick, s), over(77, 0, 0, s)} {
				checkTickAt(t, 5, c, now, c)
			}
		}
	}
}

// All that may be is in one list, and the order stays.
func TestTickOfSeveral(t *testing.T) {
	for now := range 40 {
		var cs, want []api.Case
		for i := range 16 {
			c := open(spread(i), i*7%16, stages[i%2])
			if i%5 == 4 {
				c = over(spread(i), i, i+3, closedStages[i%4])
			}
			cs = append(cs, c)
			if c.Stage == api.Raised && now >= c.Raised+9 {
				c = over(c.Addr, c.Raised, now, api.Expired)
			}
			want = append(want, c)
		}
		checkTick(t, 9, cs, now, want)
		checkRight(t, cs, true)
		checkRight(t, want, true)
	}
}

// Those of one address: the open one is over, and the others stay as they are.
func TestTickOfOneAddress(t *testing.T) {
	for i := range 16 {
		var cs []api.Case
		for j := range 16 {
			cs = append(cs, over(first, j, 2*j, closedStages[j%4]))
		}
		cs = at(cs, i, open(first, 30, api.Raised))
		checkTick(t, 5, cs, 34, cs)
		checkTick(t, 5, cs, 35, at(cs, i, over(first, 30, 35, api.Expired)))
		cs = at(cs, i, open(first, 30, api.Approved))
		checkTick(t, 5, cs, 35, cs)
	}
}

// What one tick ended, the next one leaves as it is.
func TestTickByTick(t *testing.T) {
	for lasts := 1; lasts <= 6; lasts++ {
		cs := list(open(5, 10, api.Raised))
		for now := 10; now < 30; now++ {
			want := list(open(5, 10, api.Raised))
			if now >= 10+lasts {
				want = list(over(5, 10, 10+lasts, api.Expired))
			}
			checkTick(t, lasts, cs, now, want)
			cs = cases.Tick(lasting(lasts), cs, now)
		}
	}
}

func TestTickAtTheLastTick(t *testing.T) {
	for _, now := range slices.Concat(highTicks, []int{lastTick}) {
		for _, lasts := range []int{1, 3, 50, 1000} {
			c := open(77, lastTick-lasts, api.Raised)
			checkTickAt(t, lasts, c, now, over(77, lastTick-lasts, lastTick, api.Expired))
			for _, raised := range []int{lastTick - lasts + 1, lastTick} {
				c = open(77, raised, api.Raised)
				checkTickAt(t, lasts, c, now, c)
			}
			checkTickAt(t, lasts, open(77, 0, api.Raised), now, over(77, 0, lastTick, api.Expired))
		}
	}
	c := open(77, lastTick-3, api.Raised)
	checkTickAt(t, 3, c, lastTick-1, c)
	checkTickAt(t, 2, c, lastTick-1, over(77, lastTick-3, lastTick-1, api.Expired))
}

// A tick below 0 is taken for 0.
func TestTickAtTicksBelow0(t *testing.T) {
	for _, now := range slices.Concat(lowTicks, []int{0}) {
		for _, raised := range goodTicks {
			c := open(77, raised, api.Raised)
			checkTickAt(t, 1, c, now, c)
		}
		// With an Open of 0, which no valid configuration has, those of the same tick are over.
		checkTick(t, 0, list(open(77, 0, api.Raised), open(78, 1, api.Raised)), now, list(over(77, 0, 0, api.Expired), open(78, 1, api.Raised)))
	}
}

// Only the Open of a configuration counts.
func TestTickByOtherFieldsOfAConfiguration(t *testing.T) {
	cs := list(open(5, 20, api.Raised), open(6, 21, api.Raised), open(7, 0, api.Approved), over(8, 0, 9, api.Rejected))
	want := at(cs, 0, over(5, 20, 30, api.Expired))
	for _, n := range []int{math.MinInt, -1, 0, 1, 2, 3, 1000, math.MaxInt} {
		f := api.Config{Fresh: n, Old: n, Need: n, Every: n, Rate: n, Wait: n, Again: n, Open: 10, Quiet: n}
		if got := cases.Tick(f, cs, 30); !slices.Equal(got, want) {
			t.Errorf("with other fields of %d, Tick is %v, want %v", n, got, want)
		}
	}
}

// Numbers that are not valid, where the promise says what is answered: an Open is taken as it is, and ticks by their Clamp.
func TestTickOfNumbersThatAreNotValid(t *testing.T) {
	c := open(77, 10, api.Raised)
	checkTickAt(t, -1, c, 9, over(77, 10, 9, api.Expired)) // 1 tick ahead is not less than -1
	checkTickAt(t, -1, c, 8, c)
	checkTickAt(t, math.MinInt, c, 0, over(77, 10, 0, api.Expired))
	checkTickAt(t, math.MaxInt, c, math.MaxInt, c)
	checkTickAt(t, lastTick+1, open(77, 0, api.Raised), math.MaxInt, open(77, 0, api.Raised))
	checkTickAt(t, lastTick, open(77, 0, api.Raised), math.MaxInt, over(77, 0, lastTick, api.Expired))
	checkTickAt(t, 5, over(77, 10, 3, api.Raised), 14, over(77, 10, 3, api.Raised))
	checkTickAt(t, 5, over(77, 10, 3, api.Raised), 15, over(77, 10, 15, api.Expired))
	for _, tick := range lowTicks { // as 0, and kept as it is
		checkTickAt(t, 3, open(77, tick, api.Raised), 2, open(77, tick, api.Raised))
		checkTickAt(t, 3, open(77, tick, api.Raised), 3, over(77, tick, 3, api.Expired))
	}
	for _, tick := range highTicks { // as the last one
		checkTickAt(t, 3, open(77, tick, api.Raised), 2, open(77, tick, api.Raised))
		checkTickAt(t, 3, open(77, tick, api.Raised), math.MaxInt, open(77, tick, api.Raised))
		checkTickAt(t, 0, open(77, tick, api.Raised), math.MaxInt, over(77, tick, lastTick, api.Expired))
	}
	// More than there may be, and several of one address: each one by itself.
	for _, n := range []int{17, 18, 100} {
		cs := make([]api.Case, n)
		want := make([]api.Case, n)
		for i := range cs {
			cs[i] = open(77, i%9, api.Raised)
			want[i] = cs[i]
			if i%9 <= 5 {
				want[i] = over(77, i%9, 10, api.Expired)
			}
		}
		checkTick(t, 5, cs, 10, want)
	}
}
