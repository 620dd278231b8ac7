package clock_test

import (
	"math"
	"math/big"
	"testing"

	"terrier/clock"
)

const last = 1 << 40

// edges are the numbers where a range begins or ends, those beside them, and some between and beyond.
var edges = []int{
	math.MinInt, math.MinInt + 1, -1 << 62, -last*2 - 1, -last * 2, -last*2 + 1, -last - 2, -last - 1, -last, -last + 1, -last + 2, -last / 2,
	-1 << 32, -1000, -2, -1, 0, 1, 2, 7, 1000, 1 << 31, 1 << 32, 1<<32 + 1,
	last / 2, last - 2, last - 1, last, last + 1, last + 2, last*2 - 1, last * 2, last*2 + 1, 1 << 62, math.MaxInt - last, math.MaxInt - 1, math.MaxInt,
}

// limited is a number held inside a range, where nothing wraps around.
func limited(n *big.Int, low, high int64) *big.Int {
	if n.Cmp(big.NewInt(low)) < 0 {
		return big.NewInt(low)
	}
	if n.Cmp(big.NewInt(high)) > 0 {
		return big.NewInt(high)
	}
	return n
}

func whole(n int) *big.Int { return big.NewInt(int64(n)) }

func modelClamp(n int) int { return int(limited(whole(n), 0, last).Int64()) }

func modelAdd(t, n int) int {
	sum := new(big.Int).Add(limited(whole(t), 0, last), limited(whole(n), -last, last))
	return int(limited(sum, 0, last).Int64())
}

func modelSince(now, t int) int {
	return int(new(big.Int).Sub(limited(whole(now), 0, last), limited(whole(t), 0, last)).Int64())
}

// P3.1

func TestClamp(t *testing.T) {
	for _, c := range []struct{ n, want int }{
		{math.MinInt, 0}, {math.MinInt + 1, 0}, {-last - 1, 0}, {-last, 0}, {-2, 0}, {-1, 0},
		{0, 0}, {1, 1}, {2, 2}, {12345, 12345}, {1 << 32, 1 << 32}, {last - 2, last - 2}, {last - 1, last - 1},
		{last, last}, {last + 1, last}, {last + 2, last}, {last * 2, last}, {math.MaxInt - 1, last}, {math.MaxInt, last},
	} {
		if got := clock.Clamp(c.n); got != c.want {
			t.Errorf("Clamp(%d) = %d, want %d", c.n, got, c.want)
		}
	}
	for _, n := range edges {
		if got, want := clock.Clamp(n), modelClamp(n); got != want {
			t.Errorf("Clamp(%d) = %d, want %d", n, got, want)
		}
	}
}

type addition struct{ t, n, want int }

func checkAdd(t *testing.T, list []addition) {
	t.Helper()
	for _, c := range list {
		if got := clock.Add(c.t, c.n); got != c.want {
			t.Errorf("Add(%d, %d) = %d, want %d", c.t, c.n, got, c.want)
		}
	}
}

func TestAddInsideTheRange(t *testing.T) {
	checkAdd(t, []addition{
		{0, 0, 0}, {0, 1, 1}, {5, 7, 12}, {12, -7, 5}, {5, -5, 0}, {5, -4, 1}, {1 << 39, 1 << 38, 3 << 38}, {1 << 33, 1, 1<<33 + 1},
		{last - 1, 1, last}, {last - 2, 1, last - 1}, {last, 0, last}, {last, -1, last - 1},
	})
}

func TestAddStopsAtTheEnds(t *testing.T) {
	checkAdd(t, []addition{
		{5, -6, 0}, {5, -9, 0}, {0, -1, 0}, {last, 1, last}, {last - 1, 2, last}, {last - 5, 9, last}, {1 << 39, 1 << 39, last}, {1 << 39, 1<<39 + 1, last},
	})
}

// The tick is limited ahead of the sum, so that what is beyond the range does not count.
func TestAddLimitsTheTickFirst(t *testing.T) {
	checkAdd(t, []addition{
		{-1, 0, 0}, {-7, 3, 3}, {-7, 7, 7}, {-last, last, last}, {-last - 1, 4, 4}, {-7, -3, 0},
		{last + 1, 0, last}, {last + 1, -1, last - 1}, {last + 9, -3, last - 3}, {last * 2, -last, 0}, {last * 2, 3, last},
		{math.MinInt, 6, 6}, {math.MinInt + 1, 1, 1}, {math.MaxInt, -6, last - 6}, {math.MaxInt - 1, -1, last - 1},
	})
}

func TestAddAtTheEndsOfTheStep(t *testing.T) {
	checkAdd(t, []addition{
		{0, last - 1, last - 1}, {0, last, last}, {0, last + 1, last}, {1, last - 1, last}, {1, last, last}, {last, last, last}, {last, last + 1, last},
		{last, -last + 1, 1}, {last, -last, 0}, {last, -last - 1, 0}, {last - 1, -last + 1, 0}, {last - 1, -last, 0}, {0, -last, 0}, {0, -last - 1, 0},
		{last + 5, -last - 5, 0}, {last + 5, -last + 2, 2}, {-5, last - 2, last - 2}, {-5, last + 5, last},
	})
}

func TestAddOfTheLeastAndTheGreatest(t *testing.T) {
	checkAdd(t, []addition{
		{0, math.MaxInt, last}, {1, math.MaxInt, last}, {last, math.MaxInt, last}, {-1, math.MaxInt, last}, {last, math.MaxInt - last + 1, last},
		{0, math.MinInt, 0}, {1, math.MinInt, 0}, {last, math.MinInt, 0}, {last + 1, math.MinInt, 0}, {-1, math.MinInt, 0},
		{math.MinInt, 0, 0}, {math.MinInt, -1, 0}, {math.MaxInt, 0, last}, {math.MaxInt, 1, last}, {math.MinInt, last, last}, {math.MaxInt, -last, 0},
		{math.MinInt, math.MinInt, 0}, {math.MinInt, math.MaxInt, last}, {math.MaxInt, math.MinInt, 0}, {math.MaxInt, math.MaxInt, last},
	})
}

func TestAddOfAllEdges(t *testing.T) {
	for _, tick := range edges {
		for _, n := range edges {
			checkAdd(t, []addition{{tick, n, modelAdd(tick, n)}})
		}
	}
}

func TestLast(t *testing.T) {
	for _, n := range []int{last, last + 1, last + 2, last * 2, 1 << 62, math.MaxInt - 1, math.MaxInt} {
		if !clock.Last(n) {
			t.Errorf("Last(%d) = false", n)
		}
	}
	for _, n := range []int{last - 1, last - 2, last / 2, 1 << 32, 1, 0, -1, -last + 1, -last, -last - 1, math.MinInt + 1, math.MinInt} {
		if clock.Last(n) {
			t.Errorf("Last(%d) = true", n)
		}
	}
}

// P3.2

func TestSince(t *testing.T) {
	for _, c := range []struct{ now, t, want int }{
		{0, 0, 0}, {9, 9, 0}, {9, 4, 5}, {9, 8, 1}, {last, 0, last}, {last, last - 1, 1}, {last, last, 0},
		{4, 9, -5}, {8, 9, -1}, {0, last, -last}, {0, 1, -1}, {last - 1, last, -1},
		{3, -4, 3}, {0, -1, 0}, {last, -1, last}, {-4, 3, -3}, {-1, 0, 0}, {-1, last, -last}, {-5, -9, 0}, {-9, -5, 0},
		{last + 1, last, 0}, {last + 9, last - 2, 2}, {last + 9, 0, last}, {last, last + 1, 0}, {last - 2, last + 9, -2}, {0, last + 9, -last}, {last + 3, last + 9, 0}, {last + 9, last + 3, 0},
		{last + 1, -1, last}, {-1, last + 1, -last},
		{math.MinInt, math.MaxInt, -last}, {math.MaxInt, math.MinInt, last}, {math.MinInt, math.MinInt, 0}, {math.MaxInt, math.MaxInt, 0},
		{math.MinInt, 7, -7}, {7, math.MinInt, 7}, {math.MaxInt, 7, last - 7}, {7, math.MaxInt, 7 - last},
	} {
		if got := clock.Since(c.now, c.t); got != c.want {
			t.Errorf("Since(%d, %d) = %d, want %d", c.now, c.t, got, c.want)
		}
	}
	for _, now := range edges {
		for _, tick := range edges {
			if got, want := clock.Since(now, tick), modelSince(now, tick); got != want {
				t.Errorf("Since(%d, %d) = %d, want %d", now, tick, got, want)
			}
		}
	}
}

func checkWithin(t *testing.T, now, tick, n int, want bool) {
	t.Helper()
	if got := clock.Within(now, tick, n); got != want {
		t.Errorf("Within(%d, %d, %d) = %v", now, tick, n, got)
	}
}

func TestWithinOfTheDocument(t *testing.T) {
	checkWithin(t, 10, 8, 3, true)
	checkWithin(t, 10, 7, 3, false)
}

func TestWithinAtTheEndsOfTheSpan(t *testing.T) {
	for _, n := range []int{1, 2, 3, 50, 1 << 32, last - 1} {
		for _, now := range []int{n, n + 1, last - 1, last} {
			checkWithin(t, now, now+1, n, now == last) // behind the last tick there is none that is ahead
			checkWithin(t, now, now, n, true)
			checkWithin(t, now, now-n+1, n, true)
			checkWithin(t, now, now-n, n, false)
		}
	}
	checkWithin(t, last, 0, last, false)
	checkWithin(t, last, 1, last, true)
	checkWithin(t, last, 0, last+1, true)
	checkWithin(t, last, 0, math.MaxInt, true)
	checkWithin(t, 0, 1, math.MaxInt, false)
	checkWithin(t, 0, last, math.MaxInt, false)
}

func TestWithinOfNoSpan(t *testing.T) {
	for _, n := range []int{0, -1, -2, -5, -last, -last - 1, math.MinInt + 1, math.MinInt} {
		for _, now := range edges {
			for _, tick := range edges {
				checkWithin(t, now, tick, n, false)
			}
		}
	}
	checkWithin(t, 4, 9, -4, false) // five ahead is less than four ahead, but not at least 0
}

func TestWithinOfTicksOutsideTheRange(t *testing.T) {
	for _, c := range []struct {
		now, t, n int
		want      bool
	}{
		{3, -4, 3, false}, {3, -4, 4, true}, {0, -9, 1, true}, {-9, 0, 1, true}, {-9, 1, 100, false}, {-5, -9, 1, true}, {-9, -5, 1, true},
		{last + 5, last, 1, true}, {last, last + 5, 1, true}, {last + 5, last - 1, 1, false}, {last + 5, last - 1, 2, true}, {last - 1, last + 5, 9, false},
		{last + 9, last + 2, 1, true}, {math.MaxInt, math.MinInt, last, false}, {math.MaxInt, math.MinInt, last + 1, true}, {math.MinInt, math.MaxInt, math.MaxInt, false},
		{math.MinInt, math.MinInt, 1, true}, {math.MaxInt, math.MaxInt, 1, true}, {math.MinInt, math.MinInt, 0, false},
	} {
		checkWithin(t, c.now, c.t, c.n, c.want)
	}
}

func TestWithinOfAllEdges(t *testing.T) {
	for _, now := range edges {
		for _, tick := range edges {
			for _, n := range edges {
				ago := modelSince(now, tick)
				checkWithin(t, now, tick, n, 0 <= ago && ago < n)
			}
		}
	}
}
