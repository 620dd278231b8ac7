package sweep_test

import (
	"math"
	"slices"
	"testing"

	"terrier/api"
	"terrier/sweep"
)

// every has an Every, and elsewhere numbers that would be seen in an answer if they counted.
func every(n int) api.Config {
	return api.Config{Fresh: 1, Old: 2, Need: 3, Every: n, Rate: 1, Wait: 5, Again: 6, Open: 7, Quiet: 8}
}

// checkPlan asks twice, with room behind the list, whether what is answered is right, and whether list and answers are apart.
func checkPlan(t *testing.T, c api.Config, ss []api.Sweep, now, room int, want []api.Sweep, asked []api.Addr) {
	t.Helper()
	memory := slices.Concat(ss, behind())
	before := slices.Clone(memory)
	given := memory[:len(ss)]
	got, as := sweep.Plan(c, given, now, room)
	again, more := sweep.Plan(c, given, now, room)
	if !slices.Equal(got, want) || !slices.Equal(as, asked) {
		t.Fatalf("Plan(%d, %v, %d, %d) is %v, %v, want %v, %v", c.Every, ss, now, room, got, as, want, asked)
	}
	if !slices.Equal(again, want) || !slices.Equal(more, asked) {
		t.Fatalf("Plan(%d, %v, %d, %d) is %v, %v at the second call, want %v, %v", c.Every, ss, now, room, again, more, want, asked)
	}
	checkRight(t, got, true)
	fill(got)
	for i := range as[:cap(as)] {
		as[:cap(as)][i] = 77
	}
	if !slices.Equal(memory, before) {
		t.Fatalf("Plan has the list %v be %v", before, memory)
	}
	fill(memory)
	if !slices.Equal(again, want) || !slices.Equal(more, asked) {
		t.Fatalf("Plan of %v answers memory that was given, or answered", ss)
	}
}

// checkNone asks whether nobody is asked, and nothing changed.
func checkNone(t *testing.T, c api.Config, ss []api.Sweep, now, room int) {
	t.Helper()
	checkPlan(t, c, ss, now, room, ss, nil)
}

// from is n addresses, one after the other.
func from(a api.Addr, n int) []api.Addr {
	var as []api.Addr
	for k := range n {
		as = append(as, a+api.Addr(k))
	}
	return as
}

func sweepAt(base api.Addr, bits, due, next int) api.Sweep {
	return api.Sweep{Block: block(base, bits), Due: due, Next: next}
}

// P14.2

func TestExample(t *testing.T) {
	ss, _ := sweep.Put(nil, block(first, 30), 0)
	checkPlan(t, every(10), ss, 0, 3, []api.Sweep{sweepAt(first, 30, 0, 3)}, from(first, 3))
	ss, _ = sweep.Plan(every(10), ss, 0, 3)
	checkPlan(t, every(10), ss, 0, 3, []api.Sweep{sweepAt(first, 30, 10, 0)}, from(first+3, 1))
}

func TestPlanOfNothing(t *testing.T) {
	for _, now := range []int{math.MinInt, -1, 0, 1, lastTick, math.MaxInt} {
		for _, room := range []int{math.MinInt, -1, 0, 1, math.MaxInt} {
			checkNone(t, every(10), nil, now, room)
			checkNone(t, every(10), []api.Sweep{}, now, room)
		}
	}
}

func TestPlanByDue(t *testing.T) {
	row := []api.Sweep{sweepAt(first, 31, 5, 0), sweepAt(first+8, 31, 7, 1), sweepAt(first+16, 32, 6, 0)}
	for now := -2; now < 5; now++ {
		checkNone(t, every(10), row, now, 100)
	}
	checkNone(t, every(10), row, math.MinInt, 100)
	one := at(row, 0, sweepAt(first, 31, 15, 0))
	checkPlan(t, every(10), row, 5, 100, one, from(first, 2))
	two := at(one, 2, sweepAt(first+16, 32, 16, 0))
	checkPlan(t, every(10), row, 6, 100, two, append(from(first, 2), first+16))
	three := at(two, 1, sweepAt(first+8, 31, 17, 0))
	for _, now := range []int{7, 8, 14, 15, 1000, lastTick, lastTick + 1, math.MaxInt} {
		checkPlan(t, every(10), row, now, 100, three, append(from(first, 2), first+16, first+9))
	}
}

// A tick below 0 is below every Due there is; it isn't taken for 0.
func TestPlanAtTicksBelow0(t *testing.T) {
	row := []api.Sweep{sweepAt(first, 31, 0, 0)}
	for _, now := range []int{-1, -2, -lastTick, math.MinInt} {
		checkNone(t, every(10), row, now, 100)
	}
	checkPlan(t, every(10), row, 0, 100, []api.Sweep{sweepAt(first, 31, 10, 0)}, from(first, 2))
}

func TestPlanAtTheLastTick(t *testing.T) {
	row := []api.Sweep{sweepAt(first, 31, lastTick, 0), sweepAt(first+8, 31, lastTick-1, 0)}
	checkNone(t, every(10), row, lastTick-2, 100)
	checkPlan(t, every(1), row, lastTick-1, 100, []api.Sweep{row[0], sweepAt(first+8, 31, lastTick, 0)}, from(first+8, 2))
	both := []api.Sweep{row[0], sweepAt(first+8, 31, lastTick, 0)}
	for _, now := range []int{lastTick, lastTick + 1, math.MaxInt} {
		checkPlan(t, every(10), row, now, 100, both, append(from(first+8, 2), from(first, 2)...))
		// Due still, in the order of the list.
		checkPlan(t, every(10), both, now, 100, both, append(from(first, 2), from(first+8, 2)...))
	}
}

// The Due goes on by Every from where it was, whatever the tick is.
func TestPlanByEvery(t *testing.T) {
	for _, x := range []struct{ due, every, want int }{
		{0, 1, 1}, {5, 1, 6}, {5, 10, 15}, {5, 1000, 1005}, {0, 1000, 1000},
		{lastTick - 10, 9, lastTick - 1}, {lastTick - 10, 10, lastTick}, {lastTick - 10, 11, lastTick}, {lastTick - 10, 1000, lastTick},
		{lastTick - 1, 1, lastTick}, {lastTick - 1, 2, lastTick}, {lastTick, 1, lastTick}, {lastTick, 1000, lastTick},
		// Numbers that no valid configuration has, as clock.Add takes them.
		{5, 0, 5}, {5, -2, 3}, {5, -6, 0}, {5, math.MinInt, 0}, {5, math.MaxInt, lastTick}, {lastTick, -1, lastTick - 1}, {lastTick, math.MaxInt, lastTick},
	} {
		for _, now := range []int{x.due, x.due + 1, x.due + 7, lastTick, math.MaxInt} {
			for _, next := range []int{0, 2, 3} {
				row := []api.Sweep{sweepAt(first, 30, x.due, next)}
				checkPlan(t, every(x.every), row, now, 64, []api.Sweep{sweepAt(first, 30, x.want, 0)}, from(first+api.Addr(next), 4-next))
			}
			part := []api.Sweep{sweepAt(first, 30, x.due, 3)}
			checkPlan(t, every(x.every), []api.Sweep{sweepAt(first, 30, x.due, 0)}, now, 3, part, from(first, 3))
		}
	}
}

// The least Due is asked first, wherever it stands.
func TestPlanInTheOrderOfDue(t *testing.T) {
	for _, dues := range [][]int{{1, 2, 3}, {1, 3, 2}, {2, 1, 3}, {2, 3, 1}, {3, 1, 2}, {3, 2, 1}, {1, 1, 2}, {1, 2, 1}, {2, 1, 1}, {1, 2, 2}, {2, 1, 2}, {2, 2, 1}, {1, 1, 1}} {
		var row []api.Sweep
		for i, due := range dues {
			row = append(row, sweepAt(first+api.Addr(8*i), 31, due, 0))
		}
		var asked []api.Addr
		want := slices.Clone(row)
		for due := 1; due <= 3; due++ {
			for i := range row {
				if row[i].Due == due {
					asked = append(asked, from(row[i].Block.Base, 2)...)
					want[i].Due = due + 10
				}
			}
		}
		checkPlan(t, every(10), row, 3, 6, want, asked)
		checkPlan(t, every(10), row, 3, 100, want, asked)
	}
}

// Sixteen of one Due keep their order, and so do those of each Due where there are few of them.
func TestPlanOfManyOfOneDue(t *testing.T) {
	for _, kinds := range []int{1, 2, 3, 5} {
		var row, want []api.Sweep
		var asked []api.Addr
		for i := range maxSweeps {
			s := sweepAt(first+api.Addr(4*i), 31, kinds-1-i%kinds, 0)
			row = append(row, s)
			s.Due += 10
			want = append(want, s)
		}
		for due := range kinds {
			for _, s := range row {
				if s.Due == due {
					asked = append(asked, from(s.Block.Base, 2)...)
				}
			}
		}
		checkPlan(t, every(10), row, 9, 32, want, asked)
	}
}

func TestPlanByRoom(t *testing.T) {
	row := []api.Sweep{sweepAt(first, 30, 3, 1), sweepAt(first+8, 31, 2, 0), sweepAt(first+16, 31, 9, 0)}
	order := append(from(first+8, 2), from(first+1, 3)...)
	for _, room := range []int{math.MinInt, math.MinInt + 1, -1 << 32, -2, -1, 0} {
		checkNone(t, every(10), row, 3, room)
	}
	checkPlan(t, every(10), row, 3, 1, at(row, 1, sweepAt(first+8, 31, 2, 1)), order[:1])
	second := at(row, 1, sweepAt(first+8, 31, 12, 0))
	checkPlan(t, every(10), row, 3, 2, second, order[:2])
	checkPlan(t, every(10), row, 3, 3, at(second, 0, sweepAt(first, 30, 3, 2)), order[:3])
	checkPlan(t, every(10), row, 3, 4, at(second, 0, sweepAt(first, 30, 3, 3)), order[:4])
	all := at(second, 0, sweepAt(first, 30, 13, 0))
	for _, room := range []int{5, 6, 64, 255, 256, 257, 1 << 32, math.MaxInt} {
		checkPlan(t, every(10), row, 3, room, all, order)
	}
}

// One sweep of each size, from each Next, with each room.
func TestPlanOfOneSweep(t *testing.T) {
	for bits := 24; bits <= 32; bits++ {
		for _, base := range []api.Addr{0, first, 0x80000000, 0xffffff00} {
			size := sizeOf(block(base, bits))
			step := max(size/16, 1)
			for next := 0; next < size; next += step {
				left := size - next
				for room := 1; room < left; room += step {
					checkOne(t, base, bits, next, room)
				}
				checkOne(t, base, bits, next, left-1)
				checkOne(t, base, bits, next, left)
				checkOne(t, base, bits, next, left+1)
			}
			checkOne(t, base, bits, size-1, 0)
			checkOne(t, base, bits, size-1, 1)
		}
	}
}

func checkOne(t *testing.T, base api.Addr, bits, next, room int) {
	t.Helper()
	size := sizeOf(block(base, bits))
	want, n := sweepAt(base, bits, 4, next+room), room
	if next+room >= size {
		want, n = sweepAt(base, bits, 11, 0), size-next
	}
	checkPlan(t, every(7), []api.Sweep{sweepAt(base, bits, 4, next)}, 6, room, []api.Sweep{want}, from(base+api.Addr(next), n))
}

// The addresses at both ends of all addresses.
func TestPlanOfTheFirstAndTheLastAddress(t *testing.T) {
	row := []api.Sweep{sweepAt(0, 24, 3, 0), sweepAt(0x7fffff00, 24, 3, 250), sweepAt(0x80000000, 24, 3, 0), sweepAt(lastAddr-3, 30, 1, 0)}
	want := []api.Sweep{sweepAt(0, 24, 4, 0), sweepAt(0x7fffff00, 24, 4, 0), sweepAt(0x80000000, 24, 4, 0), sweepAt(lastAddr-3, 30, 2, 0)}
	asked := slices.Concat(from(lastAddr-3, 4), from(0, 256), from(0x7ffffffa, 6), from(0x80000000, 256))
	checkPlan(t, every(1), row, 3, 1000, want, asked)
	checkPlan(t, every(1), row, 3, 522, want, asked)
	checkPlan(t, every(1), row, 3, 521, at(want, 2, sweepAt(0x80000000, 24, 3, 255)), asked[:521])
}

// All that may be: sixteen prefixes of 256 addresses.
func TestPlanOfAllAtOnce(t *testing.T) {
	var row, want []api.Sweep
	for i := range maxSweeps {
		row = append(row, sweepAt(first+api.Addr(256*i), 24, 0, 0))
		want = append(want, sweepAt(first+api.Addr(256*i), 24, 1000, 0))
	}
	checkPlan(t, every(1000), row, 0, 4096, want, from(first, 4096))
	checkPlan(t, every(1000), row, 0, math.MaxInt, want, from(first, 4096))
	checkPlan(t, every(1000), row, 0, 4095, at(want, 15, sweepAt(first+256*15, 24, 0, 255)), from(first, 4095))
}

// A sweep over several Plans: its Due stays until its last address was asked.
func TestPlanInParts(t *testing.T) {
	row := []api.Sweep{sweepAt(first, 29, 5, 0)}
	for now, x := range []struct {
		room, due, next, from, n int
	}{
		{3, 5, 0, 0, 0}, {3, 5, 0, 0, 0}, {3, 5, 0, 0, 0}, {3, 5, 0, 0, 0}, {3, 5, 0, 0, 0}, // ticks 0 to 4
		{3, 5, 3, 0, 3}, {0, 5, 3, 0, 0}, {-5, 5, 3, 0, 0}, {1, 5, 4, 3, 1}, {3, 5, 7, 4, 3},
		{1, 9, 0, 7, 1}, // begun in tick 5, ended in tick 10, and due since tick 9
		{7, 9, 7, 0, 7}, {7, 13, 0, 7, 1}, {7, 13, 7, 0, 7}, {1, 17, 0, 7, 1}, {9, 17, 0, 0, 0}, {9, 17, 0, 0, 0}, {8, 21, 0, 0, 8},
	} {
		want := []api.Sweep{sweepAt(first, 29, x.due, x.next)}
		checkPlan(t, every(4), row, now, x.room, want, from(first+api.Addr(x.from), x.n))
		row, _ = sweep.Plan(every(4), row, now, x.room)
	}
}

// One that has begun does not come ahead of one that has been due for longer.
func TestPlanOfOneThatHasBegun(t *testing.T) {
	row := []api.Sweep{sweepAt(first, 30, 5, 3), sweepAt(first+8, 30, 4, 0), sweepAt(first+16, 30, 5, 0)}
	checkPlan(t, every(10), row, 9, 2, at(row, 1, sweepAt(first+8, 30, 4, 2)), from(first+8, 2))
	both := at(row, 1, sweepAt(first+8, 30, 14, 0))
	checkPlan(t, every(10), row, 9, 4, both, from(first+8, 4))
	checkPlan(t, every(10), row, 9, 5, at(both, 0, sweepAt(first, 30, 15, 0)), append(from(first+8, 4), first+3))
}

// However long a prefix has been due, a Plan asks each of its addresses once at most, and a later one again.
func TestPlanOfOneThatHasBeenDueForLong(t *testing.T) {
	row := []api.Sweep{sweepAt(first, 31, 2, 0)}
	for _, due := range []int{3, 4, 5, 6, 7} {
		want := []api.Sweep{sweepAt(first, 31, due, 0)}
		checkPlan(t, every(1), row, 6, 100, want, from(first, 2))
		row = want
	}
	checkNone(t, every(1), row, 6, 100)
	begun := []api.Sweep{sweepAt(first, 30, 0, 3)}
	checkPlan(t, every(1), begun, lastTick, 1000, []api.Sweep{sweepAt(first, 30, 1, 0)}, from(first+3, 1))
	// Also where its next Due is before that of another one.
	two := []api.Sweep{sweepAt(first, 31, 0, 0), sweepAt(first+2, 31, 9, 0)}
	checkPlan(t, every(1), two, 9, 100, []api.Sweep{sweepAt(first, 31, 1, 0), sweepAt(first+2, 31, 10, 0)}, from(first, 4))
	// Also with an Every that no valid configuration has.
	checkPlan(t, every(0), two, 9, 100, two, from(first, 4))
	checkPlan(t, every(-5), two, 9, 100, []api.Sweep{two[0], sweepAt(first+2, 31, 4, 0)}, from(first, 4))
}

func TestPlanWithEveryOf1(t *testing.T) {
	row := []api.Sweep{sweepAt(first, 32, 0, 0), sweepAt(first+8, 31, 0, 0)}
	for now := range 50 {
		want := []api.Sweep{sweepAt(first, 32, now+1, 0), sweepAt(first+8, 31, now+1, 0)}
		checkPlan(t, every(1), row, now, 3, want, []api.Addr{first, first + 8, first + 9})
		row = want
	}
}

// Of a configuration Every counts only.
func TestPlanWithOtherFields(t *testing.T) {
	row := []api.Sweep{sweepAt(first, 30, 5, 1), sweepAt(first+8, 31, 4, 0)}
	want := []api.Sweep{sweepAt(first, 30, 8, 0), sweepAt(first+8, 31, 7, 0)}
	asked := append(from(first+8, 2), from(first+1, 3)...)
	checkPlan(t, api.Config{Every: 3}, row, 5, 10, want, asked)
	for _, n := range []int{math.MinInt, -1, 0, 1, 64, math.MaxInt} {
		checkPlan(t, api.Config{Fresh: n, Old: n, Need: n, Every: 3, Rate: n, Wait: n, Again: n, Open: n, Quiet: n}, row, 5, 10, want, asked)
	}
}
