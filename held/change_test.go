package held_test

import (
	"math/rand"
	"slices"
	"testing"

	"terrier/api"
	"terrier/held"
)

var scribble = api.Holder{Addr: 77, Owner: "scribble", Mac: api.Mac{7, 7, 7, 7, 7, 7}}

// checkCall makes a call with a list that has room behind it, and asks for what it answers, that the list and the room behind it stay as they were, also when the answer is written over, and that the answer stays as it was when the list is.
func checkCall(t *testing.T, name string, hs []api.Holder, call func(hs []api.Holder) ([]api.Holder, api.Errno), want []api.Holder, wantErr api.Errno) {
	t.Helper()
	memory := append(slices.Clone(hs), holderOf(1), holderOf(2), holderOf(3))
	before := slices.Clone(memory)
	given := memory[:len(hs)]
	got, err := call(given)
	if !slices.Equal(got, want) || err != wantErr {
		t.Errorf("%s of %v is %v, %v, want %v, %v", name, hs, got, err, want, wantErr)
	}
	again, err := call(given)
	if !slices.Equal(again, want) || err != wantErr {
		t.Errorf("%s of %v is %v, %v at the second call, want %v, %v", name, hs, again, err, want, wantErr)
	}
	fill(got)
	if !slices.Equal(memory, before) {
		t.Errorf("%s of %v has it be %v", name, before, memory)
	}
	if !slices.Equal(again, want) {
		t.Errorf("two answers of %s of %v share memory", name, hs)
	}
	fill(memory)
	if !slices.Equal(again, want) {
		t.Errorf("%s of %v answers memory that was given", name, hs)
	}
}

// fill writes over a list, and over the room behind it.
func fill(hs []api.Holder) {
	hs = hs[:cap(hs)]
	for i := range hs {
		hs[i] = scribble
	}
}

func checkPut(t *testing.T, hs []api.Holder, h api.Holder, want []api.Holder, wantErr api.Errno) {
	t.Helper()
	put := func(hs []api.Holder) ([]api.Holder, api.Errno) { return held.Put(hs, h) }
	checkCall(t, "Put of "+h.Owner, hs, put, want, wantErr)
	if wantErr == 0 {
		got, _ := held.Put(hs, h)
		checkRight(t, got, true)
		checkGet(t, got, h.Addr, h, true)
	}
}

func checkTake(t *testing.T, hs []api.Holder, a api.Addr, want []api.Holder, wantErr api.Errno) {
	t.Helper()
	take := func(hs []api.Holder) ([]api.Holder, api.Errno) { return held.Take(hs, a) }
	checkCall(t, "Take", hs, take, want, wantErr)
	if wantErr == 0 {
		got, _ := held.Take(hs, a)
		checkRight(t, got, true)
		checkGet(t, got, a, api.Holder{}, false)
	}
}

func checkGet(t *testing.T, hs []api.Holder, a api.Addr, want api.Holder, wantOK bool) {
	t.Helper()
	before := slices.Clone(hs)
	if h, ok := held.Get(hs, a); h != want || ok != wantOK {
		t.Errorf("Get(%v, %d) = %v, %v, want %v, %v", hs, a, h, ok, want, wantOK)
	}
	if !slices.Equal(hs, before) {
		t.Errorf("Get changed %v to %v", before, hs)
	}
}

// with is a list with a holder added at a place, made by hand.
func with(hs []api.Holder, i int, h api.Holder) []api.Holder {
	var list []api.Holder
	list = append(list, hs[:i]...)
	list = append(list, h)
	return append(list, hs[i:]...)
}

// without is a list without the holder at a place, made by hand.
func without(hs []api.Holder, i int) []api.Holder {
	var list []api.Holder
	list = append(list, hs[:i]...)
	return append(list, hs[i+1:]...)
}

// P11.2: Get

func TestGet(t *testing.T) {
	for _, n := range []int{0, 1, 2, 3, 47, 48} {
		hs := rising(n)
		for _, h := range hs {
			checkGet(t, hs, h.Addr, h, true)
			checkGet(t, hs, h.Addr-1, api.Holder{}, false)
			checkGet(t, hs, h.Addr+1, api.Holder{}, false)
			checkGet(t, hs, h.Addr+1<<16, api.Holder{}, false)
			checkGet(t, hs, h.Addr|1<<31, api.Holder{}, false)
		}
		checkGet(t, hs, 0, api.Holder{}, false)
		checkGet(t, hs, lastAddr, api.Holder{}, false)
	}
	checkGet(t, nil, 0, api.Holder{}, false)
	checkGet(t, nil, lastAddr, api.Holder{}, false)
}

func TestGetOfTheFirstAndTheLastAddress(t *testing.T) {
	both := rowOf(0, lastAddr)
	checkGet(t, both, 0, both[0], true)
	checkGet(t, both, lastAddr, both[1], true)
	checkGet(t, both, 1, api.Holder{}, false)
	checkGet(t, both, lastAddr-1, api.Holder{}, false)
	checkGet(t, rowOf(0), lastAddr, api.Holder{}, false)
	checkGet(t, rowOf(lastAddr), 0, api.Holder{}, false)
	checkGet(t, rowOf(1, lastAddr-1), 0, api.Holder{}, false)
	checkGet(t, rowOf(1, lastAddr-1), lastAddr, api.Holder{}, false)
}

// The whole Holder is answered, the Mac too, whatever it is.
func TestGetOfAnyStation(t *testing.T) {
	for _, m := range []api.Mac{{}, {2, 0, 0, 0, 0, 1}, {1, 2, 3, 4, 5, 6}, {255, 255, 255, 255, 255, 255}} {
		h := api.Holder{Addr: 9, Owner: "a1b2c3d4", Mac: m}
		checkGet(t, []api.Holder{holderOf(8), h, holderOf(10)}, 9, h, true)
		checkPut(t, rowOf(8, 10), h, []api.Holder{holderOf(8), h, holderOf(10)}, 0)
	}
}

// P11.2: Put

func TestPutAtEachPlace(t *testing.T) {
	for _, n := range []int{0, 1, 2, 3, 46, 47} {
		hs := rising(n)
		for i := range n + 1 {
			checkPut(t, hs, holderOf(api.Addr(95+10*i)), with(hs, i, holderOf(api.Addr(95+10*i))), 0)
			checkPut(t, hs, holderOf(api.Addr(91+10*i)), with(hs, i, holderOf(api.Addr(91+10*i))), 0)
			checkPut(t, hs, holderOf(api.Addr(99+10*i)), with(hs, i, holderOf(api.Addr(99+10*i))), 0)
		}
		checkPut(t, hs, holderOf(0), with(hs, 0, holderOf(0)), 0)
		checkPut(t, hs, holderOf(lastAddr), with(hs, n, holderOf(lastAddr)), 0)
	}
	checkPut(t, []api.Holder{}, holderOf(5), rowOf(5), 0)
	checkPut(t, rowOf(0), holderOf(lastAddr), rowOf(0, lastAddr), 0)
	checkPut(t, rowOf(lastAddr), holderOf(0), rowOf(0, lastAddr), 0)
	checkPut(t, rowOf(0x80000000), holderOf(0x7fffffff), rowOf(0x7fffffff, 0x80000000), 0)
	checkPut(t, rowOf(0x7fffffff), holderOf(0x80000000), rowOf(0x7fffffff, 0x80000000), 0)
}

func TestPutOfAnOwnerThatIsNotValid(t *testing.T) {
	for _, n := range []int{0, 1, 2, 47, 48} {
		hs := rising(n)
		for _, owner := range wrongOwners {
			for _, a := range []api.Addr{0, 95, 100, 105, 570, lastAddr} { // free, and, of a list that has it, taken
				checkPut(t, hs, api.Holder{Addr: a, Owner: owner}, nil, api.ErrArgument)
			}
		}
	}
}

func TestPutOfAnOwnerThatIsValid(t *testing.T) {
	for _, owner := range []string{"a", "9", "a1b2c3d4", "o"} {
		h := api.Holder{Addr: 105, Owner: owner}
		checkPut(t, rising(2), h, with(rising(2), 1, h), 0)
	}
	// The owner of another address.
	h := api.Holder{Addr: 105, Owner: rising(2)[0].Owner}
	checkPut(t, rising(2), h, with(rising(2), 1, h), 0)
}

func TestPutOfAnAddressThatIsTaken(t *testing.T) {
	for _, n := range []int{1, 2, 3, 47, 48} { // a list of 48 is full besides
		hs := rising(n)
		for _, h := range hs {
			checkPut(t, hs, h, nil, api.ErrTaken)
			checkPut(t, hs, api.Holder{Addr: h.Addr, Owner: "zzz"}, nil, api.ErrTaken)
			checkPut(t, hs, api.Holder{Addr: h.Addr}, nil, api.ErrArgument)
		}
	}
	checkPut(t, rowOf(0, lastAddr), holderOf(0), nil, api.ErrTaken)
	checkPut(t, rowOf(0, lastAddr), holderOf(lastAddr), nil, api.ErrTaken)
}

func TestPutToAListThatIsFull(t *testing.T) {
	hs := rising(48)
	for i := range 49 {
		checkPut(t, hs, holderOf(api.Addr(95+10*i)), nil, api.ErrFull)
	}
	checkPut(t, hs, holderOf(0), nil, api.ErrFull)
	checkPut(t, hs, holderOf(lastAddr), nil, api.ErrFull)
	less, _ := held.Take(hs, 300)
	checkPut(t, less, holderOf(5), with(less, 0, holderOf(5)), 0)
	checkPut(t, less, holderOf(300), hs, 0)
}

// P11.2: Take

func TestTake(t *testing.T) {
	for _, n := range []int{0, 1, 2, 3, 47, 48} {
		hs := rising(n)
		for i, h := range hs {
			checkTake(t, hs, h.Addr, without(hs, i), 0)
			checkTake(t, hs, h.Addr-1, nil, api.ErrUnknown)
			checkTake(t, hs, h.Addr+1, nil, api.ErrUnknown)
		}
		checkTake(t, hs, 0, nil, api.ErrUnknown)
		checkTake(t, hs, lastAddr, nil, api.ErrUnknown)
	}
	checkTake(t, nil, 0, nil, api.ErrUnknown)
	checkTake(t, []api.Holder{}, 7, nil, api.ErrUnknown)
	checkTake(t, rowOf(0), 0, nil, 0)
	checkTake(t, rowOf(lastAddr), lastAddr, nil, 0)
	checkTake(t, rowOf(0, 1, lastAddr), 0, rowOf(1, lastAddr), 0)
	checkTake(t, rowOf(0, 1, lastAddr), 1, rowOf(0, lastAddr), 0)
	checkTake(t, rowOf(0, 1, lastAddr), lastAddr, rowOf(0, 1), 0)
	checkTake(t, rowOf(1, lastAddr-1), 0, nil, api.ErrUnknown)
	checkTake(t, rowOf(1, lastAddr-1), lastAddr, nil, api.ErrUnknown)
}

// P11.2: all of them

// A list that a call returned stays as it was when later calls are made with it.
func TestListsStayAsTheyWere(t *testing.T) {
	type kept struct{ list, copy []api.Holder }
	var all []kept
	keep := func(hs []api.Holder) { all = append(all, kept{hs, slices.Clone(hs)}) }
	var hs []api.Holder
	for k := range 48 {
		// Two answers of one list, each of which may have room for the next one.
		other, _ := held.Put(hs, holderOf(api.Addr(1+k*29%48*10)))
		keep(other)
		hs, _ = held.Put(hs, holderOf(api.Addr(k*29%48*10)))
		keep(hs)
	}
	for k := range 48 {
		keep(hs)
		hs, _ = held.Take(hs, api.Addr(k*19%48*10))
		keep(hs)
	}
	if len(hs) != 0 {
		t.Errorf("%d are left", len(hs))
	}
	for i, k := range all {
		if !slices.Equal(k.list, k.copy) {
			t.Errorf("list %d was %v, and is %v", i, k.copy, k.list)
		}
	}
}

// The model is a map; its keys are sorted to hold it against the list.
func TestRandomChangesAgainstModel(t *testing.T) {
	r := rand.New(rand.NewSource(11))
	for _, span := range []int{3, 20, 60, 100, 1 << 32} {
		model := map[api.Addr]api.Holder{}
		var hs []api.Holder
		for range 2000 {
			a := api.Addr(r.Intn(span))
			if r.Intn(2) == 0 {
				a = ^a
			}
			_, taken := model[a]
			if r.Intn(5) < 2 {
				hs = modelTake(t, hs, a, model, taken)
				continue
			}
			h := holderOf(a)
			if r.Intn(8) == 0 {
				h.Owner = wrongOwners[r.Intn(len(wrongOwners))]
			}
			hs = modelPut(t, hs, h, model, taken)
		}
	}
}

func modelPut(t *testing.T, hs []api.Holder, h api.Holder, model map[api.Addr]api.Holder, taken bool) []api.Holder {
	t.Helper()
	want := api.Errno(0)
	switch {
	case slices.Contains(wrongOwners, h.Owner):
		want = api.ErrArgument
	case taken:
		want = api.ErrTaken
	case len(model) == maxHolders:
		want = api.ErrFull
	}
	if want != 0 {
		checkPut(t, hs, h, nil, want)
		return hs
	}
	model[h.Addr] = h
	checkPut(t, hs, h, sorted(model), 0)
	got, _ := held.Put(hs, h)
	return got
}

func modelTake(t *testing.T, hs []api.Holder, a api.Addr, model map[api.Addr]api.Holder, taken bool) []api.Holder {
	t.Helper()
	checkGet(t, hs, a, model[a], taken)
	if !taken {
		checkTake(t, hs, a, nil, api.ErrUnknown)
		return hs
	}
	delete(model, a)
	checkTake(t, hs, a, sorted(model), 0)
	got, _ := held.Take(hs, a)
	return got
}

func sorted(model map[api.Addr]api.Holder) []api.Holder {
	var as []api.Addr
	for a := range model {
		as = append(as, a)
	}
	slices.Sort(as)
	var hs []api.Holder
	for _, a := range as {
		hs = append(hs, model[a])
	}
	return hs
}
