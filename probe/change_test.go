package probe_test

import (
	"math"
	"slices"
	"testing"

	"terrier/api"
	"terrier/probe"
	"terrier/wire"
)

var scribble = api.Probe{Addr: 77, ID: -77, Seq: -77, Sent: -77, Tries: -77}

// behind is what stands in the room behind a list that is given.
func behind() []api.Probe { return rowOf(11, 12, 13) }

// fill writes over a list, and over the room behind it.
func fill(ps []api.Probe) {
	ps = ps[:cap(ps)]
	for i := range ps {
		ps[i] = scribble
	}
}

// checkCall makes a call with a list that has room behind it, and asks for what it answers, that the list and the room behind it stay as they were, also when the answer is written over, and that the answer stays as it was when the list is.
func checkCall(t *testing.T, name string, ps []api.Probe, call func(ps []api.Probe) ([]api.Probe, api.Errno), want []api.Probe, wantErr api.Errno) {
	t.Helper()
	memory := slices.Concat(ps, behind())
	before := slices.Clone(memory)
	given := memory[:len(ps)]
	got, err := call(given)
	if !slices.Equal(got, want) || err != wantErr {
		t.Errorf("%s of %v is %v, %v, want %v, %v", name, ps, got, err, want, wantErr)
	}
	again, err := call(given)
	if !slices.Equal(again, want) || err != wantErr {
		t.Errorf("%s of %v is %v, %v at the second call, want %v, %v", name, ps, again, err, want, wantErr)
	}
	fill(got)
	if !slices.Equal(memory, before) {
		t.Errorf("%s of %v has it be %v", name, before, memory)
	}
	if !slices.Equal(again, want) {
		t.Errorf("two answers of %s of %v share memory", name, ps)
	}
	fill(memory)
	if !slices.Equal(again, want) {
		t.Errorf("%s of %v answers memory that was given", name, ps)
	}
}

func checkPut(t *testing.T, ps []api.Probe, p api.Probe, want []api.Probe, wantErr api.Errno) {
	t.Helper()
	put := func(ps []api.Probe) ([]api.Probe, api.Errno) { return probe.Put(ps, p) }
	checkCall(t, "Put", ps, put, want, wantErr)
}

func checkMatch(t *testing.T, ps []api.Probe, p wire.Packet, want []api.Probe, wantErr api.Errno) {
	t.Helper()
	match := func(ps []api.Probe) ([]api.Probe, api.Errno) { return probe.Match(ps, p) }
	checkCall(t, "Match", ps, match, want, wantErr)
}

// with is a list with a question behind it, made by hand.
func with(ps []api.Probe, p api.Probe) []api.Probe {
	var list []api.Probe
	list = append(list, ps...)
	return append(list, p)
}

// without is a list without the question at a place, made by hand.
func without(ps []api.Probe, i int) []api.Probe {
	var list []api.Probe
	list = append(list, ps[:i]...)
	return append(list, ps[i+1:]...)
}

// answer is the packet that answers a question.
func answer(p api.Probe) wire.Packet {
	return wire.Packet{Answer: true, From: p.Addr, ID: p.ID, Seq: p.Seq}
}

// others are questions that differ from one in all but the address.
func others(p api.Probe) []api.Probe {
	return []api.Probe{p, {Addr: p.Addr}, {Addr: p.Addr, ID: p.ID, Seq: p.Seq ^ 1, Sent: p.Sent + 1}, {Addr: p.Addr, ID: -1, Seq: -1, Sent: -1, Tries: -1}, probe.Of(p.Addr, 9, 99)}
}

// P15.2: Put

func TestPut(t *testing.T) {
	for n := range 16 {
		ps := apart(n)
		for _, a := range []api.Addr{0, 1, first + 1, first - 1, first ^ 1<<31, first ^ 1<<16, 0x80000000, lastAddr} {
			p := question(a)
			checkPut(t, ps, p, with(ps, p), 0)
			checkRight(t, with(ps, p), true)
		}
		if n == 0 {
			checkPut(t, []api.Probe{}, question(5), rowOf(5), 0)
		}
	}
}

// It is appended as it is, with an address of less or more than any of the others.
func TestPutOfAllPartsOfAQuestion(t *testing.T) {
	ps := rowOf(9, 4)
	for _, p := range []api.Probe{
		{Addr: 1, ID: 1, Seq: 2, Sent: 3, Tries: 4}, {Addr: 5, ID: 5, Seq: 65535, Sent: lastTick, Tries: 8}, {Addr: 10, ID: 10}, {},
		// Such a question is not valid, and yet no error is named for it.
		{Addr: 1, ID: 2}, {Addr: 1, ID: -1, Seq: -2, Sent: -3, Tries: -4}, {Addr: 1, ID: 1, Seq: 65536, Sent: lastTick + 1, Tries: 9},
		{Addr: lastAddr, ID: math.MaxInt, Seq: math.MinInt, Sent: math.MaxInt, Tries: math.MinInt},
	} {
		checkPut(t, nil, p, []api.Probe{p}, 0)
		checkPut(t, ps, p, with(ps, p), 0)
	}
}

// All but the address is that of one that waits already.
func TestPutOfAQuestionThatIsAlike(t *testing.T) {
	for _, n := range []int{1, 2, 15} {
		for _, p := range apart(n) {
			p.Addr ^= 1 << 16
			checkPut(t, apart(n), p, with(apart(n), p), 0)
		}
	}
}

func TestPutOfAnAddressThatIsThere(t *testing.T) {
	for n := range 17 {
		ps := apart(n)
		for _, p := range ps {
			for _, q := range others(p) {
				checkPut(t, ps, q, nil, api.ErrTaken)
			}
		}
	}
	for _, a := range []api.Addr{0, 0x80000000, lastAddr} {
		checkPut(t, rowOf(3, a), question(a), nil, api.ErrTaken)
		checkPut(t, rowOf(a, 3), question(a), nil, api.ErrTaken)
	}
}

func TestPutToAListThatIsFull(t *testing.T) {
	for _, n := range []int{16, 17, 18, 100} { // beyond 16 it has no room, either
		ps := apart(n)
		for _, a := range []api.Addr{0, 1, first + 1, first ^ 1<<31, lastAddr} {
			checkPut(t, ps, question(a), nil, api.ErrFull)
		}
		// It is there, and the list is full: the earlier one of the two errors.
		for _, p := range ps {
			for _, q := range others(p) {
				checkPut(t, ps, q, nil, api.ErrTaken)
			}
		}
	}
	// One that is gone makes room.
	full := apart(16)
	for i, p := range full {
		less, _ := probe.Match(full, answer(p))
		checkPut(t, less, question(7), with(less, question(7)), 0)
		checkPut(t, less, p, with(less, p), 0)
		checkPut(t, less, full[(i+1)%16], nil, api.ErrTaken)
	}
}

// A list that is not valid: only the addresses and the length count.
func TestPutToAListThatIsNotValid(t *testing.T) {
	odd := []api.Probe{{Addr: 1, ID: -1, Seq: -1, Sent: -1, Tries: -1}, {Addr: 2, ID: 65538, Seq: 65536, Sent: lastTick + 1, Tries: 9}, question(3), question(3)}
	for _, p := range odd {
		for _, q := range others(p) {
			checkPut(t, odd, q, nil, api.ErrTaken)
		}
	}
	checkPut(t, odd, question(4), with(odd, question(4)), 0)
}

// P15.2: Match

func TestMatch(t *testing.T) {
	checkMatch(t, nil, wire.Packet{Answer: true}, nil, api.ErrUnknown)
	checkMatch(t, []api.Probe{}, wire.Packet{Answer: true}, nil, api.ErrUnknown)
	for n := 1; n <= 16; n++ {
		ps := apart(n)
		for i, p := range ps { // the first, the last and each one between
			checkMatch(t, ps, answer(p), without(ps, i), 0)
			checkRight(t, without(ps, i), true)
			checkMatch(t, without(ps, i), answer(p), nil, api.ErrUnknown)
		}
	}
	for _, a := range []api.Addr{0, 1, 0x8000, 0xffff, 0x10000, 0x80000000, lastAddr} {
		ps := rowOf(3, a, 7)
		checkMatch(t, ps, answer(question(a)), without(ps, 1), 0)
	}
}

// To whom it goes, and from which station it is, does not count, nor when it was asked, nor how often.
func TestMatchByPartsThatDoNotCount(t *testing.T) {
	for _, n := range []int{1, 3, 16} {
		for i := range n {
			for _, x := range []struct{ sent, tries int }{{0, 0}, {5, 8}, {lastTick, 0}, {-1, 9}, {math.MaxInt, math.MinInt}} {
				ps := changed(apart(n), i, func(p *api.Probe) { p.Sent, p.Tries = x.sent, x.tries })
				for _, to := range []api.Addr{0, 1, ps[i].Addr, lastAddr} {
					for _, m := range []api.Mac{{}, {2, 0, 0, 0, 0, 1}, {255, 255, 255, 255, 255, 255}} {
						p := answer(ps[i])
						p.To, p.Mac = to, m
						checkMatch(t, ps, p, without(ps, i), 0)
					}
				}
			}
		}
	}
}

func TestMatchOfAPacketThatIsNoAnswer(t *testing.T) {
	for _, n := range []int{0, 1, 2, 15, 16} {
		ps := apart(n)
		for _, q := range ps {
			p := answer(q)
			p.Answer = false
			checkMatch(t, ps, p, nil, api.ErrUnknown)
			checkMatch(t, ps, probe.Packet(q), nil, api.ErrUnknown)
			p.To = q.Addr
			checkMatch(t, ps, p, nil, api.ErrUnknown)
		}
		checkMatch(t, ps, wire.Packet{}, nil, api.ErrUnknown)
	}
	checkMatch(t, make([]api.Probe, 1), wire.Packet{}, nil, api.ErrUnknown)
	checkMatch(t, make([]api.Probe, 1), wire.Packet{Answer: true}, nil, 0)
}

// One of the three parts that count is another one.
func TestMatchOfAnotherPacket(t *testing.T) {
	for _, n := range []int{1, 2, 15, 16} {
		ps := apart(n)
		for _, q := range ps {
			for _, d := range []int{1, 2, 256, 32768, 65536, 1 << 32, math.MinInt} {
				p := answer(q)
				p.ID += d
				checkMatch(t, ps, p, nil, api.ErrUnknown)
				p.ID -= 2 * d
				if d != math.MinInt {
					checkMatch(t, ps, p, nil, api.ErrUnknown)
				}
				p = answer(q)
				p.Seq += d
				checkMatch(t, ps, p, nil, api.ErrUnknown)
				p.Seq -= 2 * d
				if d != math.MinInt {
					checkMatch(t, ps, p, nil, api.ErrUnknown)
				}
			}
			for bit := range 32 {
				p := answer(q)
				p.From ^= 1 << bit
				checkMatch(t, ps, p, nil, api.ErrUnknown)
				p.To = q.Addr // to it, not from it
				checkMatch(t, ps, p, nil, api.ErrUnknown)
			}
			p := answer(q)
			p.ID, p.Seq = q.Seq, q.ID
			if p.ID != p.Seq {
				checkMatch(t, ps, p, nil, api.ErrUnknown)
			}
		}
	}
}

// The parts are those of several questions, and of none of them all.
func TestMatchOfPartsOfSeveralQuestions(t *testing.T) {
	for _, n := range []int{2, 3, 16} {
		ps := apart(n)
		for i := range n {
			for j := range n {
				for k := range n {
					p := wire.Packet{Answer: true, From: ps[i].Addr, ID: ps[j].ID, Seq: ps[k].Seq}
					if i == j && j == k {
						checkMatch(t, ps, p, without(ps, i), 0)
					} else {
						checkMatch(t, ps, p, nil, api.ErrUnknown)
					}
				}
			}
		}
	}
}

// All but one of the parts is alike in all the questions: the one that has that part goes.
func TestMatchOfQuestionsThatAreAlike(t *testing.T) {
	var ps []api.Probe
	for i := range maxProbes {
		ps = append(ps, api.Probe{Addr: api.Addr(i)<<16 | 9, ID: 9, Seq: 5, Sent: 6, Tries: 7})
	}
	for i, p := range ps {
		checkMatch(t, ps, answer(p), without(ps, i), 0)
	}
	checkMatch(t, ps, wire.Packet{Answer: true, From: 16<<16 | 9, ID: 9, Seq: 5}, nil, api.ErrUnknown)
	// In lists that are not valid: to one address, with unlike numbers, or the same question twice.
	var same []api.Probe
	for i := range 8 {
		same = append(same, api.Probe{Addr: 9, ID: 9, Seq: i, Sent: i}, api.Probe{Addr: 9, ID: i + 10, Seq: 3, Sent: i})
	}
	for i, p := range same {
		checkMatch(t, same, answer(p), without(same, i), 0)
	}
	twice := []api.Probe{question(3), {Addr: 9, ID: 9, Sent: 1}, question(4), {Addr: 9, ID: 9, Sent: 2, Tries: 1}, {Addr: 9, ID: 9, Sent: 3}}
	checkMatch(t, twice, answer(twice[4]), without(twice, 1), 0)
	checkMatch(t, without(twice, 1), answer(twice[1]), []api.Probe{twice[0], twice[2], twice[4]}, 0)
	// Numbers that no valid question has are held against each other as they are.
	odd := []api.Probe{{Addr: 1, ID: -1, Seq: 65536}, {Addr: 2, ID: math.MaxInt, Seq: math.MinInt}}
	checkMatch(t, odd, wire.Packet{Answer: true, From: 1, ID: -1, Seq: 65536}, odd[1:], 0)
	checkMatch(t, odd, wire.Packet{Answer: true, From: 2, ID: math.MaxInt, Seq: math.MinInt}, odd[:1], 0)
	checkMatch(t, odd, wire.Packet{Answer: true, From: 1, ID: 65535, Seq: 0}, nil, api.ErrUnknown)
	checkMatch(t, apart(20), answer(apart(20)[18]), without(apart(20), 18), 0)
}
