package codec_test

import (
	"bytes"
	"encoding/hex"
	"math"
	"slices"
	"strings"
	"testing"

	"terrier/api"
	"terrier/codec"
)

const (
	lastTick   = 1 << 40
	lastAddr   = api.Addr(0xffffffff)
	net        = api.Addr(0x0a010000)
	maxHolders = 48
	maxSweeps  = 16
	maxKnown   = 96
	maxSeen    = 8
	maxProbes  = 16
	maxCases   = 16
)

var (
	none    = api.Mac{}
	one     = api.Mac{2, 0, 0, 0, 0, 1}
	group   = api.Mac{3, 0, 0, 0, 0, 1}
	all     = api.Mac{0xff, 0xff, 0xff, 0xff, 0xff, 0xff}
	distant = api.Mac{0x10, 0x11, 0x12, 0x13, 0x14, 0x15}
)

// numbers are at the edges of one byte, of two, of four and of eight, and of the ticks.
func numbers() []int {
	return []int{
		math.MinInt, math.MinInt + 1, -lastTick - 1, -lastTick, -1 << 32, -65537, -65536, -257, -256, -255, -2, -1, 0, 1, 2, 3, 4, 5, 6, 7, 8, 9,
		31, 32, 33, 127, 128, 254, 255, 256, 257, 260, 65534, 65535, 65536, 65537, 1<<31 - 1, 1 << 31, 1<<32 - 1, 1 << 32, 1<<32 + 1,
		lastTick - 1, lastTick, lastTick + 1, math.MaxInt - 1, math.MaxInt,
	}
}

// ofHex are the bytes of hexadecimal digits; spaces stand between parts.
func ofHex(text string) []byte {
	b, err := hex.DecodeString(strings.ReplaceAll(text, " ", ""))
	if err != nil {
		panic(err)
	}
	return b
}

// full is an event with something in each field, so that fields that do not count are told apart.
func full(what api.What) api.Event {
	return api.Event{
		What:   what,
		Holder: api.Holder{Addr: 0x01020304, Owner: "ann7", Mac: distant},
		Block:  api.Block{Base: 0x20212223, Bits: 0x18},
		Sight:  api.Sight{From: api.Lease, Mac: api.Mac{0x30, 0x31, 0x32, 0x33, 0x34, 0x35}, At: 0x4041424344454647},
	}
}

// counting is an event without the fields that do not count.
func counting(e api.Event) api.Event {
	a := api.Holder{Addr: e.Holder.Addr}
	switch e.What {
	case api.Hold:
		return api.Event{What: e.What, Holder: e.Holder}
	case api.Drop, api.Approve, api.Reject:
		return api.Event{What: e.What, Holder: a}
	case api.Watch, api.Ignore:
		return api.Event{What: e.What, Block: e.Block}
	case api.Saw:
		return api.Event{What: e.What, Holder: a, Sight: api.Sight{From: e.Sight.From, Mac: e.Sight.Mac}}
	}
	return api.Event{What: e.What}
}

// The events, by what counts of them.
func hold(a api.Addr, owner string, m api.Mac) api.Event {
	return api.Event{What: api.Hold, Holder: api.Holder{Addr: a, Owner: owner, Mac: m}}
}

func of(what api.What, a api.Addr) api.Event {
	return api.Event{What: what, Holder: api.Holder{Addr: a}}
}

func block(what api.What, base api.Addr, bits int) api.Event {
	return api.Event{What: what, Block: api.Block{Base: base, Bits: bits}}
}

func saw(a api.Addr, from api.Source, m api.Mac) api.Event {
	return api.Event{What: api.Saw, Holder: api.Holder{Addr: a}, Sight: api.Sight{From: from, Mac: m}}
}

// The parts of a state.
func holder(a api.Addr, owner string, m api.Mac) api.Holder {
	return api.Holder{Addr: a, Owner: owner, Mac: m}
}

func sweepAt(base api.Addr, bits, due, next int) api.Sweep {
	return api.Sweep{Block: api.Block{Base: base, Bits: bits}, Due: due, Next: next}
}

func sight(from api.Source, m api.Mac, at int) api.Sight {
	return api.Sight{From: from, Mac: m, At: at}
}

func known(a api.Addr, ss ...api.Sight) api.Known { return api.Known{Addr: a, Seen: ss} }

func question(a api.Addr, seq, sent, tries int) api.Probe {
	return api.Probe{Addr: a, ID: int(a % 65536), Seq: seq, Sent: sent, Tries: tries}
}

func proposal(a api.Addr, raised, ended int, s api.Stage) api.Case {
	return api.Case{Addr: a, Raised: raised, Ended: ended, Stage: s}
}

// rich is a valid state with several of each kind, in which no two fields side by side are alike.
func rich() api.State {
	return api.State{
		Now:     1000,
		Seq:     0x0102,
		Holders: []api.Holder{holder(net+1, "ann", one), holder(net+2, "b", none), holder(net+9, "12345678", group)},
		Sweeps:  []api.Sweep{sweepAt(net+8, 29, 1003, 7), sweepAt(net+0x100, 24, 1001, 255), sweepAt(net+0x300, 32, 7, 0)},
		Known: []api.Known{
			known(net+1, sight(api.Arp, one, 950)),
			known(net+5, sight(api.Neighbour, group, 990), sight(api.Echo, none, 990), sight(api.Lease, all, 1000)),
			known(net+6, sights(8, 960)...),
		},
		Probes: []api.Probe{question(net+0x109, 0x0101, 999, 0), question(net+0x108, 0x0100, 998, 8), question(0x0b020109, 0x0102, 1000, 1)},
		Cases: []api.Case{
			proposal(net+1, 980, 0, api.Raised),
			proposal(net+9, 970, 0, api.Approved),
			proposal(net+9, 900, 910, api.Rejected),
			proposal(net+1, 800, 830, api.Expired),
			proposal(net+3, 700, 700, api.Cancelled),
			proposal(net+2, 600, 640, api.Done),
		},
	}
}

// with is the rich state, changed.
func with(change func(s *api.State)) api.State {
	s := rich()
	change(&s)
	return s
}

// sights are so many, the first one of a tick, and the others behind it.
func sights(n, at int) []api.Sight {
	var ss []api.Sight
	for i := range n {
		ss = append(ss, sight(api.Source(i%4), api.Mac{byte(i)}, at+i))
	}
	return ss
}

// long is a state that is valid as long as no list is longer than it may be.
func long(holders, sweeps, knowns, seen, probes, cases int) api.State {
	s := api.State{Now: 2000, Seq: 65535}
	for i := range holders {
		s.Holders = append(s.Holders, holder(net+api.Addr(i), "owner123", api.Mac{byte(i)}))
	}
	for i := range sweeps {
		s.Sweeps = append(s.Sweeps, sweepAt(net+api.Addr(256*i), 24, 2000+i, 255-i%256))
	}
	for i := range knowns {
		s.Known = append(s.Known, known(net+api.Addr(2*i), sights(seen, i)...))
	}
	for i := range probes {
		s.Probes = append(s.Probes, question(net-api.Addr(i), i%65536, 2000, i%9))
	}
	for i := range cases {
		s.Cases = append(s.Cases, proposal(net+api.Addr(i), i, 0, api.Stage(i%2)))
	}
	return s
}

// longest has as many elements as may be.
func longest() api.State {
	return long(maxHolders, maxSweeps, maxKnown, maxSeen, maxProbes, maxCases)
}

// same tells whether two states are alike; lists without elements are.
func same(x, y api.State) bool {
	return x.Now == y.Now && x.Seq == y.Seq && slices.Equal(x.Holders, y.Holders) && slices.Equal(x.Sweeps, y.Sweeps) &&
		slices.EqualFunc(x.Known, y.Known, sameKnown) && slices.Equal(x.Probes, y.Probes) && slices.Equal(x.Cases, y.Cases)
}

func sameKnown(x, y api.Known) bool { return x.Addr == y.Addr && slices.Equal(x.Seen, y.Seen) }

// roomy is a copy of a list with room behind it, where elements stand that nobody may touch, or read.
func roomy[T any](list []T, trap T) []T {
	row := append(make([]T, 0, len(list)+3), list...)
	return append(row, trap, trap, trap)[:len(list)]
}

func roomyState(s api.State) api.State {
	s.Holders = roomy(s.Holders, holder(77, "trap", one))
	s.Sweeps = roomy(s.Sweeps, sweepAt(77, 32, 77, 0))
	s.Known = roomy(s.Known, known(77))
	for i, k := range s.Known {
		s.Known[i].Seen = roomy(k.Seen, sight(7, one, 77))
	}
	s.Probes = roomy(s.Probes, question(77, 77, 77, 7))
	s.Cases = roomy(s.Cases, proposal(77, 77, 77, 77))
	return s
}

// whole is a copy of a state, with what stands in the room behind its lists.
func whole(s api.State) api.State {
	s.Holders = allOf(s.Holders)
	s.Sweeps = allOf(s.Sweeps)
	s.Known = allOf(s.Known)
	for i, k := range s.Known {
		s.Known[i].Seen = allOf(k.Seen)
	}
	s.Probes = allOf(s.Probes)
	s.Cases = allOf(s.Cases)
	return s
}

func allOf[T any](list []T) []T { return slices.Clone(list[:cap(list)]) }

// scribble writes over all of a state's lists, and over the room behind them.
func scribble(s api.State) {
	for _, k := range s.Known {
		fill(k.Seen, sight(99, all, 99))
	}
	fill(s.Holders, holder(99, "other", all))
	fill(s.Sweeps, sweepAt(99, 99, 99, 99))
	fill(s.Known, known(99))
	fill(s.Probes, question(99, 99, 99, 99))
	fill(s.Cases, proposal(99, 99, 99, 99))
}

func fill[T any](list []T, x T) {
	for i := range list[:cap(list)] {
		list[:cap(list)][i] = x
	}
}

// sharing tells whether two addresses have sightings in the same memory.
func sharing(ks []api.Known) bool {
	for i, k := range ks {
		fill(k.Seen, api.Sight{At: i})
	}
	for i, k := range ks {
		if slices.ContainsFunc(k.Seen[:cap(k.Seen)], func(s api.Sight) bool { return s.At != i }) {
			return true
		}
	}
	return false
}

// checkEvent has an event be written twice: both times it has its bytes, in memory of their own.
func checkEvent(t *testing.T, e api.Event, want []byte) {
	t.Helper()
	first, second := codec.Event(e), codec.Event(e)
	if !bytes.Equal(first, want) || !bytes.Equal(second, want) {
		t.Fatalf("Event of %+v is\n%x and\n%x, want\n%x", e, first, second, want)
	}
	fill(first, 0xee)
	if !bytes.Equal(second, want) {
		t.Fatalf("two answers of Event of %+v share memory", e)
	}
}

// checkReadEvent has bytes be read twice: both times they are the event that they should be, and they stay as they were.
func checkReadEvent(t *testing.T, b []byte, want api.Event, wantOK bool) {
	t.Helper()
	given := roomy(b, 'a')
	before := allOf(given)
	var got [2]api.Event
	for i := range got {
		var ok bool
		got[i], ok = codec.ReadEvent(given)
		if got[i] != want || ok != wantOK {
			t.Fatalf("ReadEvent of %x is %+v %v, want %+v %v", b, got[i], ok, want, wantOK)
		}
	}
	if !bytes.Equal(allOf(given), before) {
		t.Fatalf("ReadEvent changed %x to %x", before, allOf(given))
	}
	fill(given, 0xee)
	if got[0] != want || got[1] != want {
		t.Fatalf("%x share memory with the event that was read", b)
	}
	if wantOK && !bytes.Equal(codec.Event(want), b) {
		t.Fatalf("the event of %x has the bytes %x", b, codec.Event(want))
	}
}

// checkNoEvent is for bytes that are no event's.
func checkNoEvent(t *testing.T, b []byte) {
	t.Helper()
	checkReadEvent(t, b, api.Event{}, false)
}

// checkState has a state be written twice: both times it has its bytes, in memory of their own, and it stays as it was.
func checkState(t *testing.T, s api.State, want []byte) {
	t.Helper()
	given := roomyState(s)
	before := whole(given)
	first, second := codec.State(given), codec.State(given)
	if !bytes.Equal(first, want) || !bytes.Equal(second, want) {
		t.Fatalf("State of %+v is\n%x and\n%x, want\n%x", s, first, second, want)
	}
	if !same(whole(given), before) {
		t.Fatalf("State changed %+v to %+v", before, whole(given))
	}
	scribble(given)
	fill(first, 0xee)
	if !bytes.Equal(second, want) {
		t.Fatalf("two answers of State of %+v share memory", s)
	}
}

// checkReadState has bytes be read twice: both times they are the state that they should be, they stay as they were, and no answer shares memory with them, or with the other answer.
func checkReadState(t *testing.T, b []byte, want api.State, wantOK bool) {
	t.Helper()
	given := roomy(b, 0)
	before := allOf(given)
	var got [2]api.State
	for i := range got {
		var ok bool
		got[i], ok = codec.ReadState(given)
		if !same(got[i], want) || ok != wantOK {
			t.Fatalf("ReadState of %x is\n%+v %v, want\n%+v %v", b, got[i], ok, want, wantOK)
		}
	}
	if !bytes.Equal(allOf(given), before) {
		t.Fatalf("ReadState changed %x to %x", before, allOf(given))
	}
	fill(given, 0xee)
	scribble(got[0])
	if !same(got[1], want) {
		t.Fatalf("what ReadState of %x is shares memory", b)
	}
	if wantOK && (!bytes.Equal(codec.State(want), b) || !codec.Right(want)) {
		t.Fatalf("the state of %x is not valid, or has the bytes %x", b, codec.State(want))
	}
	if sharing(got[1].Known) {
		t.Fatalf("two lists of ReadState of %x share memory", b)
	}
}

// checkNoState is for bytes that are no valid state's.
func checkNoState(t *testing.T, b []byte) {
	t.Helper()
	checkReadState(t, b, api.State{}, false)
}

// checkRight asks twice, and the state stays as it was.
func checkRight(t *testing.T, s api.State, want bool) {
	t.Helper()
	given := roomyState(s)
	before := whole(given)
	for range 2 {
		if got := codec.Right(given); got != want {
			t.Fatalf("Right of %+v is %v", s, got)
		}
	}
	if !same(whole(given), before) {
		t.Fatalf("Right changed %+v to %+v", before, whole(given))
	}
}
