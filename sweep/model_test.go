package sweep_test

import (
	"math"
	"math/rand"
	"slices"
	"sort"
	"testing"

	"terrier/addr"
	"terrier/api"
	"terrier/sweep"
)

// modelPlan lays out all that could be asked, one question a row, has the first ones be asked, and counts.
func modelPlan(every int, ss []api.Sweep, now, room int) ([]api.Sweep, []api.Addr) {
	type question struct{ due, sweep, index int }
	var all []question
	for i, s := range ss {
		for k := s.Next; k < sizeOf(s.Block) && s.Due <= now; k++ {
			all = append(all, question{s.Due, i, k})
		}
	}
	sort.Slice(all, func(i, j int) bool {
		x, y := all[i], all[j]
		if x.due != y.due {
			return x.due < y.due
		}
		if x.sweep != y.sweep {
			return x.sweep < y.sweep
		}
		return x.index < y.index
	})
	row := slices.Clone(ss)
	var asked []api.Addr
	for n, q := range all {
		if n >= room {
			break
		}
		s := &row[q.sweep]
		asked = append(asked, s.Block.Base+api.Addr(q.index))
		s.Next = q.index + 1
		if s.Next == sizeOf(s.Block) {
			s.Next, s.Due = 0, min(s.Due+every, lastTick)
		}
	}
	return row, asked
}

func checkModel(t *testing.T, every int, ss []api.Sweep, now, room int) {
	t.Helper()
	got, as := sweep.Plan(api.Config{Every: every}, ss, now, room)
	want, asked := modelPlan(every, ss, now, room)
	if !slices.Equal(got, want) || !slices.Equal(as, asked) {
		t.Fatalf("Plan(%d, %v, %d, %d) is %v, %v, want %v, %v", every, ss, now, room, got, as, want, asked)
	}
}

// Every list of prefixes of two, one and four addresses, with each of these ticks.
func TestEverySmallPlan(t *testing.T) {
	for set := range 4 * 4 * 4 * 2 * 4 {
		ss := []api.Sweep{
			sweepAt(first, 31, set&3, set>>6&1),
			sweepAt(first+2, 32, set>>2&3, 0),
			sweepAt(first+4, 30, set>>4&3, set>>7&3),
		}
		for now := -1; now <= 4; now++ {
			for room := -1; room <= 8; room++ {
				for _, every := range []int{1, 2, 5} {
					checkModel(t, every, ss, now, room)
				}
			}
		}
	}
}

// randomRow has up to 16 prefixes, with room between some of them.
func randomRow(r *rand.Rand, ticks int) []api.Sweep {
	var ss []api.Sweep
	base := api.Addr(r.Intn(1 << 20))
	for range r.Intn(maxSweeps + 1) {
		bits := 24 + r.Intn(9)
		if r.Intn(3) > 0 {
			bits = 28 + r.Intn(5)
		}
		size := api.Addr(1) << (32 - bits)
		base = (base + size - 1) &^ (size - 1)
		s := sweepAt(base, bits, r.Intn(ticks), 0)
		if r.Intn(2) == 0 {
			s.Next = r.Intn(int(size))
		}
		if r.Intn(20) == 0 {
			s.Due = lastTick - r.Intn(ticks)
		}
		ss = append(ss, s)
		base += size * api.Addr(1+r.Intn(2)*r.Intn(5))
	}
	return ss
}

func TestRandomPlans(t *testing.T) {
	r := rand.New(rand.NewSource(142))
	for range 20000 {
		ss := randomRow(r, 12)
		checkRight(t, ss, true)
		now := r.Intn(14) - 1
		if r.Intn(6) == 0 {
			now = lastTick + r.Intn(24) - 20
		}
		checkModel(t, 1+r.Intn(20), ss, now, r.Intn(1<<r.Intn(13))-1)
	}
}

// Tick by tick, with Puts and Takes between: the list stays valid, and each tick is as in the model.
func TestRandomTicks(t *testing.T) {
	r := rand.New(rand.NewSource(41))
	for range 100 {
		ss := randomRow(r, 12)
		every := 1 + r.Intn(12)
		for now := range 100 {
			room := r.Intn(40)
			checkModel(t, every, ss, now, room)
			ss, _ = sweep.Plan(api.Config{Every: every}, ss, now, room)
			switch r.Intn(8) {
			case 0:
				b, _ := addr.Make(api.Addr(r.Intn(1<<16)), 24+r.Intn(9))
				if more, err := sweep.Put(ss, b, now); err == 0 {
					ss = more
				}
			case 1:
				if len(ss) > 0 {
					ss, _ = sweep.Take(ss, ss[r.Intn(len(ss))].Block)
				}
			}
			checkRight(t, ss, true)
		}
	}
}

// Where there is room enough, each address is asked once in each of its turns, in order.
func TestEachAddressOnceATurn(t *testing.T) {
	const turn = 8
	var ss []api.Sweep
	for i, bits := range []int{28, 30, 32, 29} {
		ss, _ = sweep.Put(ss, block(first+api.Addr(64*i), bits), i)
	}
	times := map[api.Addr]int{}
	for now := range 10 * turn {
		var as []api.Addr
		ss, as = sweep.Plan(api.Config{Every: turn}, ss, now, 4)
		for _, a := range as {
			times[a]++
		}
	}
	for _, s := range ss {
		for _, a := range from(s.Block.Base, sizeOf(s.Block)) {
			if times[a] != 10 {
				t.Errorf("%s was asked %d times", addr.Text(a), times[a])
			}
			delete(times, a)
		}
	}
	if len(times) != 0 {
		t.Errorf("asked besides: %v", times)
	}
}

// Lists and numbers that are not valid: whatever is answered, no call panics, and each one ends.
func TestArgumentsThatAreNotValid(t *testing.T) {
	down := rising(16)
	slices.Reverse(down)
	var many []api.Sweep
	for i := range 30000 {
		many = append(many, sweepAt(api.Addr(7*i), 32, 30000-i, 0))
	}
	lists := [][]api.Sweep{
		nil, down, rising(17), rising(1000), many, make([]api.Sweep, 1), make([]api.Sweep, 17), make([]api.Sweep, 30000),
		rowOf(block(first, 30), block(first, 30)), rowOf(block(first, 28), block(first+4, 30)), rowOf(block(first+4, 30), block(first, 28)),
	}
	ends := []int{math.MinInt, math.MinInt + 1, -lastTick, -2, -1, 0, 1, 255, 256, 257, 1 << 32, lastTick, lastTick + 1, math.MaxInt - 1, math.MaxInt}
	for _, b := range slices.Concat(wrongBlocks, greatBlocks) {
		for _, n := range ends {
			lists = append(lists, []api.Sweep{{Block: b, Due: n, Next: 0}, {Block: b, Due: 0, Next: n}}, []api.Sweep{{Block: block(first, 30), Due: n, Next: n}})
		}
	}
	for _, ss := range lists {
		sweep.Right(ss)
		for _, n := range ends {
			for _, room := range []int{math.MinInt, 0, 5, math.MaxInt} {
				sweep.Plan(api.Config{Every: n}, ss, n, room)
			}
			sweep.Put(ss, block(first+8, 30), n)
		}
		for _, b := range slices.Concat(wrongBlocks, greatBlocks, []api.Block{block(first, 30), block(7, 32), block(lastAddr, 32)}) {
			sweep.Put(ss, b, 0)
			sweep.Take(ss, b)
		}
	}
}
