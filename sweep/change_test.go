package sweep_test

import (
	"math"
	"math/rand"
	"slices"
	"testing"

	"terrier/api"
	"terrier/sweep"
)

var scribble = api.Sweep{Block: api.Block{Base: 77, Bits: 77}, Due: -77, Next: -77}

// behind is what stands in the room behind a list that is given.
func behind() []api.Sweep {
	return []api.Sweep{sweepOf(block(1, 32)), sweepOf(block(2, 32)), sweepOf(block(3, 32))}
}

// fill writes over a list, and over the room behind it.
func fill(ss []api.Sweep) {
	ss = ss[:cap(ss)]
	for i := range ss {
		ss[i] = scribble
	}
}

// checkCall makes a call with a list that has room behind it, and asks for what it answers, that the list and the room behind it stay as they were, also when the answer is written over, and that the answer stays as it was when the list is.
func checkCall(t *testing.T, name string, ss []api.Sweep, call func(ss []api.Sweep) ([]api.Sweep, api.Errno), want []api.Sweep, wantErr api.Errno) {
	t.Helper()
	memory := slices.Concat(ss, behind())
	before := slices.Clone(memory)
	given := memory[:len(ss)]
	got, err := call(given)
	if !slices.Equal(got, want) || err != wantErr {
		t.Errorf("%s of %v is %v, %v, want %v, %v", name, ss, got, err, want, wantErr)
	}
	again, err := call(given)
	if !slices.Equal(again, want) || err != wantErr {
		t.Errorf("%s of %v is %v, %v at the second call, want %v, %v", name, ss, again, err, want, wantErr)
	}
	fill(got)
	if !slices.Equal(memory, before) {
		t.Errorf("%s of %v has it be %v", name, before, memory)
	}
	if !slices.Equal(again, want) {
		t.Errorf("two answers of %s of %v share memory", name, ss)
	}
	fill(memory)
	if !slices.Equal(again, want) {
		t.Errorf("%s of %v answers memory that was given", name, ss)
	}
}

func checkPut(t *testing.T, ss []api.Sweep, b api.Block, now int, want []api.Sweep, wantErr api.Errno) {
	t.Helper()
	put := func(ss []api.Sweep) ([]api.Sweep, api.Errno) { return sweep.Put(ss, b, now) }
	checkCall(t, "Put", ss, put, want, wantErr)
	if wantErr == 0 {
		got, _ := sweep.Put(ss, b, now)
		checkRight(t, got, true)
	}
}

// checkPutErr asks at several ticks: none of them counts for an error.
func checkPutErr(t *testing.T, ss []api.Sweep, b api.Block, want api.Errno) {
	t.Helper()
	for _, now := range []int{0, 5, -1, lastTick + 1} {
		checkPut(t, ss, b, now, nil, want)
	}
}

func checkTake(t *testing.T, ss []api.Sweep, b api.Block, want []api.Sweep, wantErr api.Errno) {
	t.Helper()
	take := func(ss []api.Sweep) ([]api.Sweep, api.Errno) { return sweep.Take(ss, b) }
	checkCall(t, "Take", ss, take, want, wantErr)
	if wantErr == 0 {
		got, _ := sweep.Take(ss, b)
		checkRight(t, got, true)
	}
}

// with is a list with a sweep added at a place, made by hand.
func with(ss []api.Sweep, i int, s api.Sweep) []api.Sweep {
	var list []api.Sweep
	list = append(list, ss[:i]...)
	list = append(list, s)
	return append(list, ss[i:]...)
}

// without is a list without the sweep at a place, made by hand.
func without(ss []api.Sweep, i int) []api.Sweep {
	var list []api.Sweep
	list = append(list, ss[:i]...)
	return append(list, ss[i+1:]...)
}

// P14.1: Put

func TestPutAtEachPlace(t *testing.T) {
	for _, n := range []int{0, 1, 2, 3, 14, 15} {
		ss := rising(n)
		for i := range n + 1 {
			// The room behind the sweep ahead is 12 addresses.
			base := first + api.Addr(16*i) - 16
			for _, b := range []api.Block{block(base+4, 30), block(base+4, 32), block(base+8, 29), block(base+8, 30), block(base+14, 31), block(base+15, 32)} {
				checkPut(t, ss, b, 70+i, with(ss, i, api.Sweep{Block: b, Due: 70 + i}), 0)
			}
		}
		low, high := block(0, 32), block(lastAddr, 32)
		checkPut(t, ss, low, 1, with(ss, 0, api.Sweep{Block: low, Due: 1}), 0)
		checkPut(t, ss, high, 1, with(ss, n, api.Sweep{Block: high, Due: 1}), 0)
	}
	under, over := block(0x7ffffff0, 28), block(0x80000000, 28)
	checkPut(t, rowOf(over), under, 3, append([]api.Sweep{{Block: under, Due: 3}}, rowOf(over)...), 0)
	checkPut(t, rowOf(under), over, 3, append(rowOf(under), api.Sweep{Block: over, Due: 3}), 0)
	checkPut(t, []api.Sweep{}, over, 3, []api.Sweep{{Block: over, Due: 3}}, 0)
}

func TestPutAtTicks(t *testing.T) {
	b := block(first+4, 30)
	for now, due := range map[int]int{
		0: 0, 1: 1, 5: 5, 1 << 32: 1 << 32, lastTick - 1: lastTick - 1, lastTick: lastTick,
		-1: 0, -2: 0, -lastTick: 0, math.MinInt: 0,
		lastTick + 1: lastTick, 1 << 41: lastTick, 1 << 62: lastTick, math.MaxInt: lastTick,
	} {
		added := api.Sweep{Block: b, Due: due}
		checkPut(t, nil, b, now, []api.Sweep{added}, 0)
		checkPut(t, rising(2), b, now, with(rising(2), 1, added), 0)
	}
}

func TestPutBySize(t *testing.T) {
	for _, base := range []api.Addr{0, first, 0x80000000} {
		for bits := range 33 {
			b := block(base&(^api.Addr(0)<<(32-bits)), bits)
			if bits >= 24 {
				checkPut(t, nil, b, 9, []api.Sweep{{Block: b, Due: 9}}, 0)
			} else {
				checkPutErr(t, nil, b, api.ErrRange)
			}
		}
	}
	for _, b := range greatBlocks {
		checkPutErr(t, nil, b, api.ErrRange)
		checkPutErr(t, rowOf(block(0x01000000, 24)), b, api.ErrRange)
	}
}

func TestPutOfAPrefixThatIsNotValid(t *testing.T) {
	for _, b := range wrongBlocks {
		checkPutErr(t, nil, b, api.ErrArgument)
		checkPutErr(t, rowOf(block(0x01000000, 24)), b, api.ErrArgument)
	}
}

func TestPutOfAPrefixThatOverlaps(t *testing.T) {
	for _, n := range []int{1, 2, 3, 15} {
		ss := rising(n)
		for _, s := range ss {
			base := s.Block.Base
			for k := range api.Addr(4) { // within it
				checkPutErr(t, ss, block(base+k, 32), api.ErrOverlap)
			}
			checkPutErr(t, ss, block(base, 31), api.ErrOverlap)
			checkPutErr(t, ss, block(base+2, 31), api.ErrOverlap)
			checkPutErr(t, ss, s.Block, api.ErrOverlap)
			checkPutErr(t, ss, block(base, 29), api.ErrOverlap) // it is within
			checkPutErr(t, ss, block(base, 28), api.ErrOverlap)
		}
		checkPutErr(t, ss, block(first, 24), api.ErrOverlap) // all are within
	}
	// Its Base is below that of the one that it overlaps, or above it.
	last := rowOf(block(first+12, 30))
	checkPutErr(t, last, block(first, 28), api.ErrOverlap)
	checkPutErr(t, last, block(first+15, 32), api.ErrOverlap)
	checkPut(t, last, block(first+8, 30), 0, with(last, 0, api.Sweep{Block: block(first+8, 30)}), 0)
	checkPut(t, last, block(first+16, 28), 0, with(last, 1, api.Sweep{Block: block(first+16, 28)}), 0)
}

func TestPutToAListThatIsFull(t *testing.T) {
	ss := rising(16)
	for i := range 17 {
		checkPutErr(t, ss, block(first+api.Addr(16*i)-8, 29), api.ErrFull)
	}
	checkPutErr(t, ss, block(0, 24), api.ErrFull)
	checkPutErr(t, ss, block(lastAddr, 32), api.ErrFull)
	less, _ := sweep.Take(ss, ss[7].Block)
	checkPut(t, less, block(0, 24), 5, with(less, 0, api.Sweep{Block: block(0, 24), Due: 5}), 0)
	checkPut(t, less, ss[7].Block, 6, at(ss, 7, api.Sweep{Block: ss[7].Block, Due: 6}), 0)
}

// Of each two errors that can hold at once, the earlier one is returned.
func TestTheEarlierOfTwoErrors(t *testing.T) {
	full, one := rising(16), rising(1)
	for _, b := range wrongBlocks {
		checkPutErr(t, full, b, api.ErrArgument)
	}
	// Bits of more than 256 addresses, and a Base that is none of such a prefix.
	checkPutErr(t, nil, block(first+4, 23), api.ErrArgument)
	checkPutErr(t, nil, block(first+256, 23), api.ErrArgument)
	// All the addresses that the Base and the Bits could mean are swept.
	checkPutErr(t, one, block(first+1, 31), api.ErrArgument)
	checkPutErr(t, one, block(first, 33), api.ErrArgument)
	checkPutErr(t, one, block(first+2, 30), api.ErrArgument)
	checkPutErr(t, one, block(first+4, 23), api.ErrArgument)
	checkPutErr(t, full, block(first+1, 31), api.ErrArgument)
	checkPutErr(t, full, block(first+4, 23), api.ErrArgument)
	checkPutErr(t, one, block(first, 23), api.ErrRange) // and ErrOverlap
	checkPutErr(t, one, block(0, 0), api.ErrRange)
	checkPutErr(t, full, block(0, 23), api.ErrRange) // and ErrFull
	checkPutErr(t, full, block(0x80000000, 1), api.ErrRange)
	checkPutErr(t, full, block(first, 23), api.ErrRange) // and both of them
	checkPutErr(t, full, block(0, 0), api.ErrRange)
	for _, s := range full { // ErrFull, too
		checkPutErr(t, full, s.Block, api.ErrOverlap)
		checkPutErr(t, full, block(s.Block.Base+3, 32), api.ErrOverlap)
		checkPutErr(t, full, block(s.Block.Base, 28), api.ErrOverlap)
	}
	checkPutErr(t, full, block(first, 24), api.ErrOverlap)
}

// P14.1: Take

func TestTake(t *testing.T) {
	for _, n := range []int{0, 1, 2, 3, 15, 16} {
		ss := rising(n)
		for i, s := range ss {
			base := s.Block.Base
			checkTake(t, ss, s.Block, without(ss, i), 0)
			for _, b := range []api.Block{block(base, 28), block(base, 29), block(base, 31), block(base, 32), block(base+1, 32), block(base+2, 31), block(base+4, 30), block(base-4, 30), block(base+8, 29)} {
				checkTake(t, ss, b, nil, api.ErrUnknown)
			}
			for _, b := range []api.Block{block(base, 33), block(base, -1), block(base+1, 30), block(base+2, 30), block(base, 30+1<<32), block(base|1<<31, 30)} {
				checkTake(t, ss, b, nil, api.ErrUnknown)
			}
		}
		for _, b := range slices.Concat(wrongBlocks, greatBlocks, []api.Block{block(0, 32), block(lastAddr, 32), {}}) {
			checkTake(t, ss, b, nil, api.ErrUnknown)
		}
	}
	checkTake(t, []api.Sweep{}, block(first, 30), nil, api.ErrUnknown)
}

func TestTakeOfTheFirstAndTheLastPrefix(t *testing.T) {
	low, mid, high := block(0, 24), block(0x80000000, 32), block(lastAddr, 32)
	all := rowOf(low, mid, high)
	checkTake(t, all, low, rowOf(mid, high), 0)
	checkTake(t, all, mid, rowOf(low, high), 0)
	checkTake(t, all, high, rowOf(low, mid), 0)
	checkTake(t, rowOf(low), low, nil, 0)
	checkTake(t, rowOf(high), high, nil, 0)
	checkTake(t, all, block(0, 32), nil, api.ErrUnknown)
	checkTake(t, all, block(lastAddr-1, 31), nil, api.ErrUnknown)
}

// P14.1: both

// A list that a call returned stays as it was when later calls are made with it.
func TestListsStayAsTheyWere(t *testing.T) {
	type kept struct{ list, copy []api.Sweep }
	var all []kept
	keep := func(ss []api.Sweep) { all = append(all, kept{ss, slices.Clone(ss)}) }
	c := api.Config{Every: 3}
	nth := func(k, step int) api.Block { return block(first+api.Addr(k*step%16*8), 30) }
	var ss []api.Sweep
	for k := range 16 {
		// Answers of one list, each of which may have room for the next one.
		b := nth(k, 5)
		other, _ := sweep.Put(ss, block(b.Base+4, 31), k)
		keep(other)
		ss, _ = sweep.Put(ss, b, k)
		keep(ss)
		planned, _ := sweep.Plan(c, ss, k, 3)
		keep(planned)
		ss, _ = sweep.Plan(c, ss, k, 5)
		keep(ss)
	}
	for k := range 16 {
		ss, _ = sweep.Take(ss, nth(k, 11))
		keep(ss)
	}
	if len(ss) != 0 {
		t.Errorf("%d are left", len(ss))
	}
	for i, k := range all {
		if !slices.Equal(k.list, k.copy) {
			t.Errorf("list %d was %v, and is %v", i, k.copy, k.list)
		}
	}
}

// The model has each address that is swept, and of which prefix.
func TestRandomChangesAgainstModel(t *testing.T) {
	r := rand.New(rand.NewSource(14))
	for _, span := range []int{16, 64, 600, 3000} {
		model := map[api.Addr]api.Sweep{}
		var ss []api.Sweep
		count := [api.ErrArgument + 1]int{}
		for range 2000 {
			bits := 22 + r.Intn(11)
			b := block(first+api.Addr(r.Intn(span)), bits)
			if r.Intn(8) > 0 {
				b.Base &= ^api.Addr(0) << (32 - bits)
			}
			var err api.Errno
			if r.Intn(3) == 0 {
				if len(ss) > 0 && r.Intn(2) == 0 {
					b = ss[r.Intn(len(ss))].Block
				}
				ss, err = modelTake(t, ss, b, model)
			} else {
				ss, err = modelPut(t, ss, b, r.Intn(50)-5, model)
			}
			count[err]++
		}
		for _, e := range []api.Errno{0, api.ErrArgument, api.ErrRange, api.ErrOverlap, api.ErrUnknown} {
			if count[e] < 20 {
				t.Errorf("%d came %d times only", e, count[e])
			}
		}
	}
}

func modelPut(t *testing.T, ss []api.Sweep, b api.Block, now int, model map[api.Addr]api.Sweep) ([]api.Sweep, api.Errno) {
	t.Helper()
	size := api.Addr(sizeOf(b))
	overlaps := false
	for k := range size {
		overlaps = overlaps || model[b.Base+k] != api.Sweep{}
	}
	want := api.Errno(0)
	switch {
	case b.Base%size != 0:
		want = api.ErrArgument
	case size > 256:
		want = api.ErrRange
	case overlaps:
		want = api.ErrOverlap
	case len(sorted(model)) == maxSweeps:
		want = api.ErrFull
	}
	if want != 0 {
		checkPut(t, ss, b, now, nil, want)
		return ss, want
	}
	for k := range size {
		model[b.Base+k] = api.Sweep{Block: b, Due: max(now, 0)}
	}
	checkPut(t, ss, b, now, sorted(model), 0)
	got, _ := sweep.Put(ss, b, now)
	return got, 0
}

func modelTake(t *testing.T, ss []api.Sweep, b api.Block, model map[api.Addr]api.Sweep) ([]api.Sweep, api.Errno) {
	t.Helper()
	if model[b.Base].Block != b {
		checkTake(t, ss, b, nil, api.ErrUnknown)
		return ss, api.ErrUnknown
	}
	for k := range api.Addr(sizeOf(b)) {
		delete(model, b.Base+k)
	}
	checkTake(t, ss, b, sorted(model), 0)
	got, _ := sweep.Take(ss, b)
	return got, 0
}

// sorted has each sweep of a model once.
func sorted(model map[api.Addr]api.Sweep) []api.Sweep {
	var as []api.Addr
	for a, s := range model {
		if a == s.Block.Base {
			as = append(as, a)
		}
	}
	slices.Sort(as)
	var ss []api.Sweep
	for _, a := range as {
		ss = append(ss, model[a])
	}
	return ss
}
