package cases_test

import (
	"math"
	"slices"
	"testing"

	"terrier/api"
	"terrier/cases"
)

var scribble = api.Case{Addr: 77, Raised: -77, Ended: -77, Stage: -77}

// behind is what stands in the room behind a list that is given.
func behind() []api.Case {
	return list(open(11, 1, api.Raised), over(12, 1, 1, api.Rejected), open(13, 3, api.Approved))
}

// fill writes over a list, and over the room behind it.
func fill(cs []api.Case) {
	cs = cs[:cap(cs)]
	for i := range cs {
		cs[i] = scribble
	}
}

// checkCall makes a call with a list that has room behind it, and asks for what it answers, that the list and the room behind it stay as they were, also when the answer is written over, and that the answer stays as it was when the list is.
func checkCall(t *testing.T, name string, cs []api.Case, call func(cs []api.Case) ([]api.Case, api.Errno), want []api.Case, wantErr api.Errno) {
	t.Helper()
	memory := slices.Concat(cs, behind())
	before := slices.Clone(memory)
	given := memory[:len(cs)]
	got, err := call(given)
	if !slices.Equal(got, want) || err != wantErr {
		t.Errorf("%s of %v is %v, %v, want %v, %v", name, cs, got, err, want, wantErr)
	}
	again, err := call(given)
	if !slices.Equal(again, want) || err != wantErr {
		t.Errorf("%s of %v is %v, %v at the second call, want %v, %v", name, cs, again, err, want, wantErr)
	}
	fill(got)
	if !slices.Equal(memory, before) {
		t.Errorf("%s of %v has it be %v", name, before, memory)
	}
	if !slices.Equal(again, want) {
		t.Errorf("two answers of %s of %v share memory", name, cs)
	}
	fill(memory)
	if !slices.Equal(again, want) {
		t.Errorf("%s of %v answers memory that was given", name, cs)
	}
}

// silent has a Quiet, and elsewhere numbers that would be seen in an answer if they counted.
func silent(quiet int) api.Config {
	return api.Config{Fresh: 4, Old: 6, Need: 1, Every: 2, Rate: 1, Wait: 3, Again: 2, Open: 9, Quiet: quiet}
}

func checkRaise(t *testing.T, quiet int, cs []api.Case, a api.Addr, now int, want []api.Case, wantErr api.Errno) {
	t.Helper()
	raise := func(cs []api.Case) ([]api.Case, api.Errno) { return cases.Raise(silent(quiet), cs, a, now) }
	checkCall(t, "Raise", cs, raise, want, wantErr)
}

// with is a list with a case behind it, made by hand.
func with(cs []api.Case, c api.Case) []api.Case {
	var row []api.Case
	row = append(row, cs...)
	return append(row, c)
}

// without is a list without the case at a place, made by hand.
func without(cs []api.Case, i int) []api.Case {
	var row []api.Case
	row = append(row, cs[:i]...)
	return append(row, cs[i+1:]...)
}

// P16.2: a list with room

func TestRaise(t *testing.T) {
	for n := range 16 {
		for _, in := range [][]api.Stage{openStages, closedStages, stages} {
			cs := apart(n, in...)
			for _, a := range []api.Addr{0, 1, first + 1, first - 1, first ^ 1<<31, first ^ 1<<16, 0x80000000, lastAddr} {
				want := with(cs, api.Case{Addr: a, Raised: 200})
				checkRaise(t, 10, cs, a, 200, want, 0)
				checkRight(t, want, true)
			}
		}
	}
	checkRaise(t, 10, []api.Case{}, 5, 200, list(api.Case{Addr: 5, Raised: 200}), 0)
	checkRaise(t, 10, nil, 0, 0, list(api.Case{}), 0)
}

func TestRaiseByTick(t *testing.T) {
	cs := apart(3, openStages...)
	for _, now := range goodTicks {
		checkRaise(t, 10, nil, 5, now, list(open(5, now, api.Raised)), 0)
		checkRaise(t, 10, cs, 5, now, with(cs, open(5, now, api.Raised)), 0)
	}
	for _, now := range lowTicks {
		checkRaise(t, 10, nil, 5, now, list(open(5, 0, api.Raised)), 0)
		checkRaise(t, 10, cs, 5, now, with(cs, open(5, 0, api.Raised)), 0)
	}
	for _, now := range highTicks {
		checkRaise(t, 10, nil, 5, now, list(open(5, lastTick, api.Raised)), 0)
		checkRaise(t, 10, cs, 5, now, with(cs, open(5, lastTick, api.Raised)), 0)
	}
}

// P16.2: ErrTaken

func TestRaiseOfAnAddressWithAnOpenCase(t *testing.T) {
	for n := 1; n <= 18; n++ { // lists with room, one that is full, and ones with too many
		for _, in := range [][]api.Stage{openStages, stages} {
			cs := apart(n, in...)
			for _, c := range cs {
				if isOpen(c.Stage) {
					checkRaise(t, 10, cs, c.Addr, 50, nil, api.ErrTaken)
					checkRaise(t, 10, cs, c.Addr, -1, nil, api.ErrTaken)
					checkRaise(t, 0, cs, c.Addr, lastTick, nil, api.ErrTaken)
				}
			}
		}
	}
	for _, a := range []api.Addr{0, 0x80000000, lastAddr} {
		checkRaise(t, 10, list(open(3, 0, api.Raised), open(a, 9, api.Approved)), a, 50, nil, api.ErrTaken)
		checkRaise(t, 10, list(open(a, 9, api.Raised), open(3, 0, api.Approved)), a, 50, nil, api.ErrTaken)
	}
}

// An open case and a quiet one: the earlier one of the two errors, however they stand.
func TestRaiseOfAnAddressWithAnOpenAndAQuietCase(t *testing.T) {
	for _, s := range openStages {
		o, q := open(first, 48, s), over(first, 2, 47, api.Rejected)
		for _, n := range []int{0, 1, 13, 14, 15} {
			others := apart(n, stages...)[:n]
			for i := range others {
				others[i].Addr ^= 3
			}
			for _, cs := range [][]api.Case{slices.Concat(list(q, o), others), slices.Concat(list(o), others, list(q)), slices.Concat(others, list(q, o)), slices.Concat(list(q), others, list(o))} {
				checkRaise(t, 10, cs, first, 50, nil, api.ErrTaken)
			}
		}
	}
}

// P16.2: ErrState

// quietLists are lists that have a case at unlike places: with room, full, and with too many.
func quietLists(c api.Case) [][]api.Case {
	rows := [][]api.Case{list(c)}
	for _, n := range []int{1, 2, 14, 15, 16, 17} {
		for _, in := range [][]api.Stage{openStages, closedStages} {
			others := apart(n, in...)
			for _, i := range []int{0, n / 2, n} {
				rows = append(rows, slices.Concat(others[:i], list(c), others[i:]))
			}
		}
	}
	return rows
}

func TestRaiseOfAnAddressThatIsQuiet(t *testing.T) {
	for _, quiet := range []int{1, 2, 3, 50, 1000, 1 << 20, 1 << 38} {
		for _, ended := range []int{9, 10, 97, 1 << 32} {
			for _, cs := range quietLists(over(77, 9, ended, api.Rejected)) {
				for _, ago := range []int{0, 1, quiet / 2, quiet - 2, quiet - 1} {
					if ago >= 0 && ago < quiet {
						checkRaise(t, quiet, cs, 77, ended+ago, nil, api.ErrState)
					}
				}
			}
		}
	}
}

func TestRaiseOfAnAddressThatIsQuietNoMore(t *testing.T) {
	for _, quiet := range []int{0, 1, 2, 3, 50, 1000, 1 << 20, 1 << 38} {
		for _, ended := range []int{9, 10, 97, 1 << 32} {
			for _, ago := range []int{quiet, quiet + 1, quiet + 2, 2*quiet + 1} {
				now := ended + ago
				for _, cs := range quietLists(over(77, 9, ended, api.Rejected)) {
					if len(cs) < maxCases {
						checkRaise(t, quiet, cs, 77, now, with(cs, open(77, now, api.Raised)), 0)
					}
				}
				// In a full list, where it is the only one that may go, it is what goes.
				for _, i := range []int{0, 7, 15} {
					full := at(apart(16, openStages...), i, over(77, 9, ended, api.Rejected))
					checkRaise(t, quiet, full, 77, now, with(without(full, i), open(77, now, api.Raised)), 0)
				}
			}
		}
	}
}

// It was rejected at a tick ahead, which is not within the last ones.
func TestRaiseOfAnAddressThatWasRejectedAhead(t *testing.T) {
	for _, quiet := range []int{0, 1, 2, 50, 1000} {
		for _, now := range []int{0, 1, 9, 100, lastTick - 9} {
			for _, ahead := range []int{1, 2, quiet, quiet + 1, 2*quiet + 1, lastTick - now} {
				if ahead == 0 {
					continue
				}
				c := over(77, 0, min(now+ahead, lastTick), api.Rejected)
				want := open(77, now, api.Raised)
				checkRaise(t, quiet, list(c), 77, now, list(c, want), 0)
				checkRaise(t, quiet, list(c, open(5, 0, api.Raised)), 77, now, list(c, open(5, 0, api.Raised), want), 0)
				full := at(apart(16, openStages...), 4, c)
				checkRaise(t, quiet, full, 77, now, with(without(full, 4), want), 0)
			}
		}
	}
}

// Only one that was rejected is quiet: the others that ended just now are no bar.
func TestRaiseOfAnAddressWithOtherClosedCases(t *testing.T) {
	for _, s := range slices.Concat(closedStages[1:], oddStages) {
		for _, ended := range []int{9, 49, 50, 51, 1000} {
			c := over(77, 9, ended, s)
			want := open(77, 50, api.Raised)
			checkRaise(t, 10, list(c), 77, 50, list(c, want), 0)
			checkRaise(t, 10, list(open(5, 0, api.Approved), c), 77, 50, list(open(5, 0, api.Approved), c, want), 0)
			full := at(apart(16, openStages...), 9, c)
			checkRaise(t, 10, full, 77, 50, with(without(full, 9), want), 0)
			fifteen := at(apart(15, openStages...), 9, c)
			checkRaise(t, 10, fifteen, 77, 50, with(fifteen, want), 0)
		}
	}
}

// Of several cases of an address, any one that is quiet is a bar, wherever it stands.
func TestRaiseOfAnAddressWithSeveralClosedCases(t *testing.T) {
	for n := 1; n <= 16; n++ {
		var same []api.Case
		for i := range n {
			same = append(same, over(77, i, 20+i, closedStages[i%4]))
		}
		checkRaise(t, 4, same[:n-1], 77, 50, with(same[:n-1], open(77, 50, api.Raised)), 0)
		for i := range n {
			checkRaise(t, 4, at(same, i, over(77, 3, 47, api.Rejected)), 77, 50, nil, api.ErrState)
			other := at(same, i, over(78, 3, 47, api.Rejected))
			if n < maxCases {
				checkRaise(t, 4, other, 77, 50, with(other, open(77, 50, api.Raised)), 0)
				checkRaise(t, 4, other, 78, 50, nil, api.ErrState)
			}
		}
	}
}

func TestQuietOfAnotherAddressIsNoBar(t *testing.T) {
	for bit := range 32 {
		c := over(first^1<<bit, 2, 50, api.Rejected)
		checkRaise(t, 10, list(c), first, 50, list(c, open(first, 50, api.Raised)), 0)
		checkRaise(t, 10, list(c), c.Addr, 50, nil, api.ErrState)
	}
}

func TestQuietAtTheEnds(t *testing.T) {
	for _, now := range slices.Concat(highTicks, []int{lastTick}) {
		near, far := over(77, 0, lastTick-9, api.Rejected), over(77, 0, lastTick-10, api.Rejected)
		checkRaise(t, 10, list(near), 77, now, nil, api.ErrState)
		checkRaise(t, 10, list(over(77, 0, lastTick, api.Rejected)), 77, now, nil, api.ErrState)
		checkRaise(t, 10, list(far), 77, now, list(far, open(77, lastTick, api.Raised)), 0)
	}
	for _, now := range slices.Concat(lowTicks, []int{0}) {
		checkRaise(t, 1, list(over(77, 0, 0, api.Rejected)), 77, now, nil, api.ErrState)
		ahead, none := over(77, 0, 1, api.Rejected), over(77, 0, 0, api.Rejected)
		checkRaise(t, 10, list(ahead), 77, now, list(ahead, open(77, 0, api.Raised)), 0)
		checkRaise(t, 0, list(none), 77, now, list(none, open(77, 0, api.Raised)), 0)
	}
}

// Only the Quiet of a configuration counts.
func TestRaiseByOtherFieldsOfAConfiguration(t *testing.T) {
	cs := list(over(5, 1, 41, api.Rejected), over(6, 1, 40, api.Rejected))
	for _, n := range []int{math.MinInt, -1, 0, 1, 2, 3, 1000, math.MaxInt} {
		f := api.Config{Fresh: n, Old: n, Need: n, Every: n, Rate: n, Wait: n, Again: n, Open: n, Quiet: 10}
		if got, err := cases.Raise(f, cs, 5, 50); len(got) != 0 || err != api.ErrState {
			t.Errorf("with other fields of %d, Raise is %v, %v", n, got, err)
		}
		if got, err := cases.Raise(f, cs, 6, 50); !slices.Equal(got, with(cs, open(6, 50, api.Raised))) || err != 0 {
			t.Errorf("with other fields of %d, Raise is %v, %v", n, got, err)
		}
	}
}

// The example of the chapter.
func TestExample(t *testing.T) {
	cs, _ := cases.Raise(silent(4), nil, 7, 2)
	cs, _ = cases.Reject(cs, 7, 3)
	for now := 3; now < 7; now++ {
		checkRaise(t, 4, cs, 7, now, nil, api.ErrState)
	}
	checkRaise(t, 4, cs, 7, 7, with(cs, open(7, 7, api.Raised)), 0)
}
