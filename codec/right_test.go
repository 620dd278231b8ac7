package codec_test

import (
	"math"
	"slices"
	"testing"

	"terrier/api"
	"terrier/codec"
)

// P19.4, of which Right is a part

// wrong is a state that is not valid, and the state that its bytes are read as, if they are one's: what does not fit in its bytes may leave something that may be.
type wrong struct {
	why  string
	s    api.State
	read func(s *api.State) // how the state that is read differs from the rich one; nil: none is read
}

// unread are wrong states whose bytes are none's.
func unread(why string, change func(s *api.State)) wrong {
	return wrong{why, with(change), nil}
}

func wrongs() []wrong {
	return slices.Concat(wrongHeads(), wrongHolders(), wrongSweeps(), wrongKnown(), wrongProbes(), wrongCases())
}

func wrongHeads() []wrong {
	return []wrong{
		unread("Now below 0", func(s *api.State) { s.Now = -1 }),
		unread("Now far below 0", func(s *api.State) { s.Now = math.MinInt }),
		unread("Now above the last tick", func(s *api.State) { s.Now = lastTick + 1 }),
		unread("Now far above the last tick", func(s *api.State) { s.Now = math.MaxInt }),
		{"Seq below 0", with(func(s *api.State) { s.Seq = -1 }), func(s *api.State) { s.Seq = 65535 }},
		{"Seq far below 0", with(func(s *api.State) { s.Seq = math.MinInt }), func(s *api.State) { s.Seq = 0 }},
		{"Seq above 65535", with(func(s *api.State) { s.Seq = 65536 }), func(s *api.State) { s.Seq = 0 }},
		{"Seq far above 65535", with(func(s *api.State) { s.Seq = math.MaxInt }), func(s *api.State) { s.Seq = 65535 }},
	}
}

func wrongHolders() []wrong {
	return []wrong{
		unread("49 holders", func(s *api.State) { s.Holders = long(49, 0, 0, 0, 0, 0).Holders }),
		unread("holders that fall", func(s *api.State) { slices.Reverse(s.Holders) }),
		unread("a holder twice", func(s *api.State) { s.Holders[1] = s.Holders[0] }),
		unread("two holders of an address", func(s *api.State) { s.Holders[1].Addr = s.Holders[0].Addr }),
		unread("no owner", func(s *api.State) { s.Holders[2].Owner = "" }),
		unread("an owner of nine", func(s *api.State) { s.Holders[0].Owner = "abcdefghi" }),
		unread("an owner of 257", func(s *api.State) { s.Holders[0].Owner = string(slices.Repeat([]byte("a"), 257)) }),
		unread("a capital letter", func(s *api.State) { s.Holders[0].Owner = "Ann" }),
		unread("a sign", func(s *api.State) { s.Holders[0].Owner = "a-n" }),
		unread("the last owner", func(s *api.State) { s.Holders[2].Owner = "1234567 " }),
	}
}

func wrongSweeps() []wrong {
	return []wrong{
		unread("17 sweeps", func(s *api.State) { s.Sweeps = long(0, 17, 0, 0, 0, 0).Sweeps }),
		unread("sweeps that fall", func(s *api.State) { slices.Reverse(s.Sweeps) }),
		unread("a sweep twice", func(s *api.State) { s.Sweeps[1] = s.Sweeps[0] }),
		unread("prefixes that overlap", func(s *api.State) { s.Sweeps[0].Block, s.Sweeps[1].Block.Base = api.Block{Base: net, Bits: 28}, net+8 }),
		unread("a prefix within the one before", func(s *api.State) { s.Sweeps[1] = sweepAt(net+12, 30, 0, 0) }),
		unread("bits below 0", func(s *api.State) { s.Sweeps[0].Block.Bits = -1 }),
		unread("bits above 32", func(s *api.State) { s.Sweeps[0].Block.Bits = 33 }),
		{"bits of which 24 are left", with(func(s *api.State) { s.Sweeps[1].Block.Bits += 256 }), func(s *api.State) {}},
		unread("a base with more bits", func(s *api.State) { s.Sweeps[0].Block.Base++ }),
		unread("a prefix of 512", func(s *api.State) { s.Sweeps = []api.Sweep{sweepAt(net, 23, 0, 0)} }),
		unread("a prefix of all", func(s *api.State) { s.Sweeps = []api.Sweep{sweepAt(0, 0, 0, 0)} }),
		unread("Due below 0", func(s *api.State) { s.Sweeps[0].Due = -1 }),
		unread("Due above the last tick", func(s *api.State) { s.Sweeps[2].Due = lastTick + 1 }),
		unread("Next below 0", func(s *api.State) { s.Sweeps[0].Next = -1 }),
		unread("Next of the size", func(s *api.State) { s.Sweeps[0].Next = 8 }),
		unread("Next of 256", func(s *api.State) { s.Sweeps[1].Next = 256 }),
		unread("Next of 1 of a single address", func(s *api.State) { s.Sweeps[2].Next = 1 }),
		{"Next of which 7 are left", with(func(s *api.State) { s.Sweeps[0].Next = 65536 + 7 }), func(s *api.State) {}},
	}
}

func wrongKnown() []wrong {
	return []wrong{
		unread("97 addresses", func(s *api.State) { s.Known = long(0, 0, 97, 1, 0, 0).Known }),
		unread("addresses that fall", func(s *api.State) { slices.Reverse(s.Known) }),
		unread("an address twice", func(s *api.State) { s.Known[1].Addr = s.Known[0].Addr }),
		unread("no sighting", func(s *api.State) { s.Known[0].Seen = nil }),
		unread("no sighting of the last one", func(s *api.State) { s.Known[2].Seen = []api.Sight{} }),
		unread("nine sightings", func(s *api.State) { s.Known[2].Seen = sights(9, 900) }),
		unread("a source below", func(s *api.State) { s.Known[1].Seen[2].From = -1 }),
		unread("a source above", func(s *api.State) { s.Known[0].Seen[0].From = api.Sources }),
		{"a source of which Lease is left", with(func(s *api.State) { s.Known[1].Seen[2].From += 256 }), func(s *api.State) {}},
		unread("At below 0", func(s *api.State) { s.Known[0].Seen[0].At = -1 }),
		unread("At far below 0", func(s *api.State) { s.Known[1].Seen[0].At = math.MinInt }),
		unread("At less than that before", func(s *api.State) { s.Known[1].Seen[1].At = 989 }),
		unread("the last At less than that before", func(s *api.State) { s.Known[2].Seen[7].At = 965 }),
	}
}

func wrongProbes() []wrong {
	return []wrong{
		unread("17 questions", func(s *api.State) { s.Probes = long(0, 0, 0, 0, 17, 0).Probes }),
		unread("two questions to an address", func(s *api.State) { s.Probes[2].Addr, s.Probes[2].ID = s.Probes[0].Addr, s.Probes[0].ID }),
		{"another ID", with(func(s *api.State) { s.Probes[0].ID++ }), func(s *api.State) {}},
		{"an ID of all bits", with(func(s *api.State) { s.Probes[2].ID = int(s.Probes[2].Addr) }), func(s *api.State) {}},
		{"no ID", with(func(s *api.State) { s.Probes[1].ID = 0 }), func(s *api.State) {}},
		{"Seq below 0", with(func(s *api.State) { s.Probes[0].Seq = -1 }), func(s *api.State) { s.Probes[0].Seq = 65535 }},
		{"Seq above 65535", with(func(s *api.State) { s.Probes[2].Seq = 65536 }), func(s *api.State) { s.Probes[2].Seq = 0 }},
		unread("Sent below 0", func(s *api.State) { s.Probes[0].Sent = -1 }),
		unread("Sent above the last tick", func(s *api.State) { s.Probes[2].Sent = lastTick + 1 }),
		unread("Tries below 0", func(s *api.State) { s.Probes[0].Tries = -1 }),
		unread("Tries above 8", func(s *api.State) { s.Probes[2].Tries = 9 }),
		{"Tries of which 8 are left", with(func(s *api.State) { s.Probes[0].Tries = 256 + 8 }), func(s *api.State) { s.Probes[0].Tries = 8 }},
	}
}

func wrongCases() []wrong {
	return []wrong{
		unread("17 cases", func(s *api.State) { s.Cases = long(0, 0, 0, 0, 0, 17).Cases }),
		unread("two open cases of an address", func(s *api.State) { s.Cases[1].Addr = s.Cases[0].Addr }),
		unread("a stage below", func(s *api.State) { s.Cases[5].Stage = -1 }),
		unread("a stage above", func(s *api.State) { s.Cases[5].Stage = 6 }),
		{"a stage of which Done is left", with(func(s *api.State) { s.Cases[5].Stage += 256 }), func(s *api.State) {}},
		unread("Raised below 0", func(s *api.State) { s.Cases[0].Raised = -1 }),
		unread("Raised above the last tick", func(s *api.State) { s.Cases[1].Raised = lastTick + 1 }),
		unread("Ended below 0", func(s *api.State) { s.Cases[2].Ended = -1 }),
		unread("Ended above the last tick", func(s *api.State) { s.Cases[5].Ended = lastTick + 1 }),
		unread("a raised case that ended", func(s *api.State) { s.Cases[0].Ended = 980 }),
		unread("an approved case that ended", func(s *api.State) { s.Cases[1].Ended = 1 }),
		unread("Rejected ahead of Raised", func(s *api.State) { s.Cases[2].Ended = 899 }),
		unread("Expired ahead of Raised", func(s *api.State) { s.Cases[3].Ended = 0 }),
		unread("Cancelled ahead of Raised", func(s *api.State) { s.Cases[4].Ended = 699 }),
		unread("Done ahead of Raised", func(s *api.State) { s.Cases[5].Ended = 599 }),
	}
}

func TestRightOfStatesThatAreNotValid(t *testing.T) {
	for _, x := range wrongs() {
		if codec.Right(x.s) {
			t.Errorf("%s: valid", x.why)
		}
		checkRight(t, x.s, false)
		if modelRight(x.s) {
			t.Errorf("%s: the test's state is valid", x.why)
		}
	}
}

// rights are changes of the rich state that leave it valid: at the edges, and where nothing is asked.
func rights() []func(s *api.State) {
	changes := []func(s *api.State){
		func(s *api.State) {},
		func(s *api.State) { *s = api.State{} },
		func(s *api.State) { *s = longest() },
		func(s *api.State) { *s = oneOfEach() },
		func(s *api.State) { s.Seq = 0 },
		func(s *api.State) { s.Seq = 65535 },
		func(s *api.State) { s.Holders = nil },
		func(s *api.State) { s.Sweeps = nil },
		func(s *api.State) { s.Known = nil },
		func(s *api.State) { s.Probes = nil },
		func(s *api.State) { s.Cases = nil },
		// Nothing is asked of a holder's station.
		func(s *api.State) { s.Holders[0].Mac = all },
		// The questions and the cases have no order.
		func(s *api.State) { slices.Reverse(s.Probes) },
		func(s *api.State) { slices.Reverse(s.Cases) },
		// A sighting may be of any tick from 0 on.
		func(s *api.State) { s.Known[0].Seen[0].At = lastTick + 1 },
		func(s *api.State) { s.Known[0].Seen[0].At = math.MaxInt },
		func(s *api.State) { s.Known[0].Seen[0] = sight(api.Echo, all, 0) },
		// Two prefixes may stand side by side.
		func(s *api.State) { s.Sweeps[0] = sweepAt(net+0xff, 32, 0, 0) },
		func(s *api.State) {
			s.Sweeps = []api.Sweep{sweepAt(0, 24, 0, 255), sweepAt(0xffffff00, 24, lastTick, 0)}
		},
		func(s *api.State) { s.Probes[0].Seq, s.Probes[1].Seq = 0, 65535 },
		func(s *api.State) { s.Probes[0].Tries, s.Probes[1].Tries = 0, 8 },
		// Two questions may have one ID, as long as their addresses differ.
		func(s *api.State) { s.Probes[0], s.Probes[1] = question(0x10007, 1, 1, 1), question(0x20007, 1, 1, 1) },
		func(s *api.State) {
			for i := range s.Cases {
				s.Cases[i] = proposal(net, 7, 7, api.Rejected)
			}
		},
	}
	// All ticks at the same edge; none is held against another one's.
	for _, n := range []int{0, 1, 1000, lastTick - 1, lastTick} {
		changes = append(changes,
			func(s *api.State) { s.Now = n },
			func(s *api.State) { s.Sweeps[1].Due = n },
			func(s *api.State) { s.Known[0].Seen[0].At = n },
			func(s *api.State) { s.Probes[1].Sent = n },
			func(s *api.State) { s.Cases[0].Raised = n },
			func(s *api.State) { s.Cases[4].Raised, s.Cases[4].Ended = n, n },
		)
	}
	return changes
}

func TestRightOfStatesThatAreValid(t *testing.T) {
	for i, change := range rights() {
		s := with(change)
		checkRight(t, s, true)
		if !modelRight(s) {
			t.Errorf("%d: the test's state is not valid", i)
		}
		// Each part alone is valid, too, and so is the state without it.
		checkRight(t, api.State{Now: s.Now, Seq: s.Seq, Holders: s.Holders}, true)
		checkRight(t, api.State{Sweeps: s.Sweeps}, true)
		checkRight(t, api.State{Known: s.Known}, true)
		checkRight(t, api.State{Probes: s.Probes}, true)
		checkRight(t, api.State{Cases: s.Cases}, true)
	}
}

// Each number in each of its places, one at a time.
func TestRightOfNumbers(t *testing.T) {
	for _, n := range numbers() {
		for _, s := range numberedOneByOne(n) {
			checkRight(t, s, modelRight(s))
		}
	}
}

// numberedOneByOne are rich states, each with a number in one place.
func numberedOneByOne(n int) []api.State {
	return []api.State{
		with(func(s *api.State) { s.Now = n }),
		with(func(s *api.State) { s.Seq = n }),
		with(func(s *api.State) { s.Sweeps[1].Block.Bits = n }),
		with(func(s *api.State) { s.Sweeps[2].Block.Bits = n }),
		with(func(s *api.State) { s.Sweeps[1].Due = n }),
		with(func(s *api.State) { s.Sweeps[1].Next = n }),
		with(func(s *api.State) { s.Known[0].Seen[0].From = api.Source(n) }),
		with(func(s *api.State) { s.Known[0].Seen[0].At = n }),
		with(func(s *api.State) { s.Known[1].Seen[2].At = n }),
		with(func(s *api.State) { s.Probes[1].ID = n }),
		with(func(s *api.State) { s.Probes[1].Seq = n }),
		with(func(s *api.State) { s.Probes[1].Sent = n }),
		with(func(s *api.State) { s.Probes[1].Tries = n }),
		with(func(s *api.State) { s.Cases[0].Raised = n }),
		with(func(s *api.State) { s.Cases[0].Ended = n }),
		with(func(s *api.State) { s.Cases[0].Stage = api.Stage(n) }),
		with(func(s *api.State) { s.Cases[5].Raised = n }),
		with(func(s *api.State) { s.Cases[5].Ended = n }),
		with(func(s *api.State) { s.Cases[5].Stage = api.Stage(n) }),
	}
}
