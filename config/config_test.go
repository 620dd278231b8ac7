package config_test

import (
	"math"
	"math/rand"
	"testing"

	"terrier/api"
	"terrier/config"
)

const (
	fresh = iota
	old
	need
	every
	rate
	wait
	again
	open
	quiet
	fields // how many there are
)

// values are the fields of a configuration, in the document's order.
type values [fields]int

var names = [fields]string{"Fresh", "Old", "Need", "Every", "Rate", "Wait", "Again", "Open", "Quiet"}

var (
	lows  = values{1, 1, 1, 1, 1, 1, 0, 1, 0} // of Old: with the least Fresh
	highs = values{1000, 10000, 6, 1000, 64, 100, 8, 1000, 1000}
	usual = values{20, 60, 2, 10, 4, 3, 1, 30, 40}
)

// far are numbers that are beyond every range, on either side.
var far = []int{math.MinInt, math.MinInt + 1, -1 << 32, -10001, -1000, -2, 10002, 1 << 31, 1 << 32, 1<<32 + 5, 1 << 40, math.MaxInt - 1, math.MaxInt}

func configOf(v values) api.Config {
	return api.Config{Fresh: v[fresh], Old: v[old], Need: v[need], Every: v[every], Rate: v[rate], Wait: v[wait], Again: v[again], Open: v[open], Quiet: v[quiet]}
}

// valuesOf takes the fields out by their names, as configOf puts them in.
func valuesOf(c api.Config) values {
	return values{c.Fresh, c.Old, c.Need, c.Every, c.Rate, c.Wait, c.Again, c.Open, c.Quiet}
}

// with is v with one field set.
func (v values) with(field, n int) values {
	v[field] = n
	return v
}

// low is where the range of a field begins, by the Fresh of v.
func (v values) low(field int) int {
	if field == old {
		return v[fresh]
	}
	return lows[field]
}

func modelRight(v values) int {
	for i, n := range v {
		if n < v.low(i) || n > highs[i] {
			return i
		}
	}
	return -1
}

func modelFit(v values) values {
	for i, n := range v {
		if n > highs[i] {
			v[i] = highs[i]
		}
		if n < v.low(i) {
			v[i] = v.low(i)
		}
	}
	return v
}

func checkRight(t *testing.T, v values, want int) {
	t.Helper()
	if got := config.Right(configOf(v)); got != want {
		t.Errorf("Right(%v) = %d, want %d", v, got, want)
	}
}

// checkFit asks too that what was made to fit is right, and fits as it is.
func checkFit(t *testing.T, v, want values) {
	t.Helper()
	c := config.Fit(configOf(v))
	if got := valuesOf(c); got != want {
		t.Errorf("Fit(%v) = %v, want %v", v, got, want)
	}
	if place := config.Right(c); place != -1 {
		t.Errorf("Right(Fit(%v)) = %d", v, place)
	}
	if twice := config.Fit(c); twice != c {
		t.Errorf("Fit(Fit(%v)) = %v, want %v", v, valuesOf(twice), valuesOf(c))
	}
}

func checkModel(t *testing.T, v values) {
	t.Helper()
	checkRight(t, v, modelRight(v))
	checkFit(t, v, modelFit(v))
}

// right are valid configurations whose Fresh is 1, so that every field, Old too, has the range that lows and highs tell.
var right = []values{
	{1, 60, 2, 10, 4, 3, 1, 30, 40},
	lows,
	{1, 10000, 6, 1000, 64, 100, 8, 1000, 1000},
	{1, 777, 3, 500, 32, 50, 4, 500, 500},
}

// P10.1: New

func TestNew(t *testing.T) {
	want := api.Config{Fresh: 20, Old: 60, Need: 2, Every: 10, Rate: 4, Wait: 3, Again: 1, Open: 30, Quiet: 40}
	for range 2 {
		if got := config.New(); got != want {
			t.Errorf("New() = %+v, want %+v", got, want)
		}
	}
	if n := config.Right(config.New()); n != -1 {
		t.Errorf("Right(New()) = %d", n)
	}
	if got := config.Fit(config.New()); got != want {
		t.Errorf("Fit(New()) = %+v, want %+v", got, want)
	}
}

// P10.1: Right

func TestRightAtTheEndsOfEachRange(t *testing.T) {
	for _, v := range right {
		for i := range v {
			checkRight(t, v.with(i, lows[i]-1), i)
			checkRight(t, v.with(i, highs[i]+1), i)
			checkRight(t, v.with(i, lows[i]), -1)
			if i != fresh { // Old would be below a greater Fresh
				checkRight(t, v.with(i, highs[i]), -1)
			}
		}
		checkRight(t, v.with(old, 10000).with(fresh, 1000), -1)
		checkRight(t, v.with(old, 10000).with(fresh, 1001), fresh)
	}
}

func TestRightOfNewWithOneFieldWrong(t *testing.T) {
	for i := range usual {
		for _, n := range append([]int{usual.low(i) - 1, highs[i] + 1}, far...) {
			checkRight(t, usual.with(i, n), i)
		}
		checkRight(t, usual.with(i, usual.low(i)), -1)
	}
}

func TestRightOfEveryValueOfEachField(t *testing.T) {
	for i := range usual {
		for n := lows[i] - 1; n <= highs[i]+1; n++ {
			checkRight(t, usual.with(i, n), modelRight(usual.with(i, n)))
		}
	}
}

// Several values of Fresh, and Old at it, beside it, and at the end of its range.
func TestRightOfOldByFresh(t *testing.T) {
	for _, n := range []int{1, 2, 19, 20, 21, 60, 61, 500, 999, 1000} {
		v := usual.with(fresh, n)
		checkRight(t, v.with(old, n-1), old)
		checkRight(t, v.with(old, n), -1)
		checkRight(t, v.with(old, n+1), -1)
		checkRight(t, v.with(old, 10000), -1)
		checkRight(t, v.with(old, 10001), old)
		checkRight(t, v.with(old, 0), old)
		checkRight(t, v.with(old, -n), old)
	}
}

// Fresh is told where it is wrong, whatever Old is with respect to it.
func TestRightOfWrongFresh(t *testing.T) {
	for _, n := range append([]int{0, -1, 1001, 9999, 10000, 10001}, far...) {
		for _, m := range append([]int{0, 1, 60, 999, 1000, 1001, 10000, 10001, n - 1, n, n + 1}, far...) {
			checkRight(t, usual.with(fresh, n).with(old, m), fresh)
		}
	}
}

func TestRightTellsTheFirst(t *testing.T) {
	for first := range fields {
		for second := first + 1; second < fields; second++ {
			checkRight(t, usual.with(first, -1).with(second, -1), first)
			checkRight(t, usual.with(first, 10001).with(second, 10001), first)
			checkRight(t, usual.with(first, math.MinInt).with(second, math.MaxInt), first)
			checkRight(t, usual.with(first, math.MaxInt).with(second, math.MinInt), first)
		}
	}
}

// Every set of fields is wrong at once.
func TestRightOfEverySetOfWrongFields(t *testing.T) {
	for set := range 1 << fields {
		below, above, first := usual, usual, -1
		for i := fields - 1; i >= 0; i-- {
			if set>>i&1 == 1 {
				below[i], above[i], first = usual.low(i)-1, highs[i]+1, i
			}
		}
		checkRight(t, below, first)
		checkRight(t, above, first)
	}
}

func TestRightOfTheZeroConfiguration(t *testing.T) {
	checkRight(t, values{}, fresh)
	checkRight(t, values{1}, old)
	checkRight(t, values{1, 1, 1, 1, 1, 1, 0, 1}, -1)
}

// P10.1: Fit

func TestFitOfTheZeroConfiguration(t *testing.T) {
	want := api.Config{Fresh: 1, Old: 1, Need: 1, Every: 1, Rate: 1, Wait: 1, Again: 0, Open: 1, Quiet: 0}
	if got := config.Fit(api.Config{}); got != want {
		t.Errorf("Fit of the zero configuration is %+v, want %+v", got, want)
	}
	checkFit(t, values{}, values{1, 1, 1, 1, 1, 1, 0, 1, 0})
}

func TestFitOfWhatIsValid(t *testing.T) {
	for _, v := range append(right, usual, highs, values{1000, 1000, 6, 1, 64, 1, 8, 1, 1000}, values{500, 500, 1, 1000, 1, 100, 0, 1000, 0}) {
		checkFit(t, v, v)
	}
	for i := range usual {
		for n := lows[i]; n <= highs[i]; n++ {
			v := usual.with(fresh, 1).with(old, 10000).with(i, n)
			checkFit(t, v, v)
			checkRight(t, v, -1)
		}
	}
}

func TestFitAtTheEndsOfEachRange(t *testing.T) {
	for _, v := range right {
		for i := range v {
			checkFit(t, v.with(i, lows[i]-1), v.with(i, lows[i]))
			checkFit(t, v.with(i, lows[i]), v.with(i, lows[i]))
			if i != fresh { // Old would be replaced too
				checkFit(t, v.with(i, highs[i]), v.with(i, highs[i]))
				checkFit(t, v.with(i, highs[i]+1), v.with(i, highs[i]))
			}
		}
		whole := v.with(old, 10000)
		checkFit(t, whole.with(fresh, 1000), whole.with(fresh, 1000))
		checkFit(t, whole.with(fresh, 1001), whole.with(fresh, 1000))
	}
}

// The least and the greatest int in each field, in two of them, and in all.
func TestFitOfFarNumbers(t *testing.T) {
	for i := range usual {
		checkFit(t, usual.with(i, math.MinInt), usual.with(i, usual.low(i)))
		for _, n := range far {
			checkModel(t, usual.with(i, n))
			for j := range i {
				for _, m := range far {
					checkModel(t, usual.with(i, n).with(j, m))
				}
			}
		}
	}
	checkFit(t, usual.with(need, math.MaxInt), usual.with(need, 6))
	least, greatest := values{}, values{}
	for i := range fields {
		least[i], greatest[i] = math.MinInt, math.MaxInt
	}
	checkFit(t, least, values{1, 1, 1, 1, 1, 1, 0, 1, 0})
	checkFit(t, greatest, values{1000, 10000, 6, 1000, 64, 100, 8, 1000, 1000})
}

// Old is held against the Fresh that results, not against the one that was given.
func TestFitOfOldByTheFreshThatResults(t *testing.T) {
	for _, c := range []struct{ fresh, old, wantFresh, wantOld int }{
		{0, 0, 1, 1}, {0, 1, 1, 1}, {0, 5, 1, 5}, {-5, -3, 1, 1}, {-5, 0, 1, 1}, {-5, -9, 1, 1}, {-5, 60, 1, 60}, {math.MinInt, math.MinInt, 1, 1}, {math.MinInt, 7, 1, 7}, {math.MinInt, math.MaxInt, 1, 10000},
		{1001, 1000, 1000, 1000}, {1001, 999, 1000, 1000}, {1001, 1001, 1000, 1001}, {5000, 3, 1000, 1000}, {5000, 3000, 1000, 3000}, {5000, 999, 1000, 1000}, {5000, 1000, 1000, 1000}, {5000, 1001, 1000, 1001},
		{10001, 10000, 1000, 10000}, {20000, 15000, 1000, 10000}, {20000, 10000, 1000, 10000}, {math.MaxInt, 2000, 1000, 2000}, {math.MaxInt, math.MaxInt, 1000, 10000}, {math.MaxInt, math.MinInt, 1000, 1000},
		{20, 19, 20, 20}, {20, 20, 20, 20}, {20, 21, 20, 21}, {20, 0, 20, 20}, {20, -1, 20, 20}, {20, 10001, 20, 10000}, {1, 0, 1, 1}, {500, 499, 500, 500}, {999, 998, 999, 999}, {1000, 999, 1000, 1000}, {1000, 1000, 1000, 1000}, {1000, 10001, 1000, 10000},
	} {
		checkFit(t, usual.with(fresh, c.fresh).with(old, c.old), usual.with(fresh, c.wantFresh).with(old, c.wantOld))
	}
}

// A field that is wrong has no other one be replaced, but for Old, which Fresh limits.
func TestFitLeavesTheOtherFields(t *testing.T) {
	for i := range usual {
		for _, n := range far {
			c := config.Fit(configOf(usual.with(i, n)))
			for j, m := range valuesOf(c) {
				if j != i && m != usual[j] && (i != fresh || j != old) {
					t.Errorf("Fit with %s %d has %s %d, want %d", names[i], n, names[j], m, usual[j])
				}
			}
		}
	}
}

// Both, against the model

func TestFreshAndOldAgainstModel(t *testing.T) {
	edges := append([]int{-1, 0, 1, 2, 3, 59, 60, 61, 500, 998, 999, 1000, 1001, 1002, 5000, 9998, 9999, 10000, 10001}, far...)
	for _, n := range edges {
		for _, m := range edges {
			checkModel(t, usual.with(fresh, n).with(old, m))
		}
	}
}

func TestRandomConfigurationsAgainstModel(t *testing.T) {
	r := rand.New(rand.NewSource(10))
	for _, wrong := range []int{0, 1, 3, 9} { // how many fields of nine are wrong, or at an end
		for range 5000 {
			v := values{}
			for i := range v {
				low := v.low(i)
				if low < lows[i] || low > highs[i] {
					low = lows[i]
				}
				v[i] = low + r.Intn(highs[i]-low+1)
				if r.Intn(9) < wrong {
					ends := append([]int{low - 1, low, highs[i], highs[i] + 1, int(r.Uint64())}, far...)
					v[i] = ends[r.Intn(len(ends))]
				}
			}
			checkModel(t, v)
		}
	}
}
