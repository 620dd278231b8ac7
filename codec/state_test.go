package codec_test

import (
	"bytes"
	"fmt"
	"math"
	"slices"
	"strings"
	"testing"

	"terrier/api"
	"terrier/codec"
)

// P19.3

// stateBytes are those of a state by its head and its lists, each list as its number of elements and all of them.
func stateBytes(head, holders, sweeps, known, probes, cases string) []byte {
	return ofHex(head + holders + sweeps + known + probes + cases)
}

const (
	zeroHead = "0000000000000000 0000"
	empty    = "0000"
)

func TestStateOfZero(t *testing.T) {
	zero := stateBytes(zeroHead, empty, empty, empty, empty, empty)
	if len(zero) != 20 {
		t.Fatal(len(zero))
	}
	checkState(t, api.State{}, zero)
	checkState(t, api.State{Holders: []api.Holder{}, Sweeps: []api.Sweep{}, Known: []api.Known{}, Probes: []api.Probe{}, Cases: []api.Case{}}, zero)
	checkReadState(t, zero, api.State{}, true)
}

// The bytes of one element of each kind.
const (
	oneHolder = "0a010001 03 616e6e 020000000001"
	oneSweep  = "0a010008 1d 00000000000003eb 0007"
	oneKnown  = "0a010005 0003 02 030000000001 00000000000003de 00 000000000000 00000000000003de 03 ffffffffffff 00000000000003e8"
	oneProbe  = "0a010109 0101 00000000000003e7 05"
	oneCase   = "0a010003 00000000000002bc 0000000000000344 04"
)

func oneOfEach() api.State {
	return api.State{
		Now:     0x0000000102030405,
		Seq:     0x0607,
		Holders: []api.Holder{holder(net+1, "ann", one)},
		Sweeps:  []api.Sweep{sweepAt(net+8, 29, 1003, 7)},
		Known:   []api.Known{known(net+5, sight(api.Neighbour, group, 990), sight(api.Echo, none, 990), sight(api.Lease, all, 1000))},
		Probes:  []api.Probe{question(net+0x109, 0x0101, 999, 5)},
		Cases:   []api.Case{proposal(net+3, 700, 836, api.Cancelled)},
	}
}

func TestStateOfEachListAlone(t *testing.T) {
	s := oneOfEach()
	head := "0000000102030405 0607"
	tests := []struct {
		s    api.State
		want []byte
	}{
		{api.State{Now: s.Now}, stateBytes("0000000102030405 0000", empty, empty, empty, empty, empty)},
		{api.State{Seq: s.Seq}, stateBytes("0000000000000000 0607", empty, empty, empty, empty, empty)},
		{api.State{Holders: s.Holders}, stateBytes(zeroHead, "0001"+oneHolder, empty, empty, empty, empty)},
		{api.State{Sweeps: s.Sweeps}, stateBytes(zeroHead, empty, "0001"+oneSweep, empty, empty, empty)},
		{api.State{Known: s.Known}, stateBytes(zeroHead, empty, empty, "0001"+oneKnown, empty, empty)},
		{api.State{Probes: s.Probes}, stateBytes(zeroHead, empty, empty, empty, "0001"+oneProbe, empty)},
		{api.State{Cases: s.Cases}, stateBytes(zeroHead, empty, empty, empty, empty, "0001"+oneCase)},
		{s, stateBytes(head, "0001"+oneHolder, "0001"+oneSweep, "0001"+oneKnown, "0001"+oneProbe, "0001"+oneCase)},
	}
	for _, x := range tests {
		checkState(t, x.s, x.want)
		checkReadState(t, x.want, x.s, true)
	}
}

// Elements stand in the bytes as they stand in the list, whatever they are.
func TestStateOfElementsInTheirOrder(t *testing.T) {
	s := api.State{
		Holders: []api.Holder{holder(9, "b", none), holder(2, "a", one), holder(9, "b", none)},
		Sweeps:  []api.Sweep{sweepAt(16, 30, 2, 1), sweepAt(8, 31, 1, 0), sweepAt(16, 30, 2, 1)},
		Known:   []api.Known{known(5, sight(1, one, 9), sight(0, none, 3)), known(4), known(5)},
		Probes:  []api.Probe{question(8, 7, 6, 5), question(3, 2, 1, 0), question(8, 7, 6, 5)},
		Cases:   []api.Case{proposal(6, 5, 0, 1), proposal(2, 1, 4, 3), proposal(6, 5, 0, 0)},
	}
	want := stateBytes(zeroHead,
		"0003 00000009 01 62 000000000000 00000002 01 61 020000000001 00000009 01 62 000000000000",
		"0003 00000010 1e 0000000000000002 0001 00000008 1f 0000000000000001 0000 00000010 1e 0000000000000002 0001",
		"0003 00000005 0002 01 020000000001 0000000000000009 00 000000000000 0000000000000003 00000004 0000 00000005 0000",
		"0003 00000008 0007 0000000000000006 05 00000003 0002 0000000000000001 00 00000008 0007 0000000000000006 05",
		"0003 00000006 0000000000000005 0000000000000000 01 00000002 0000000000000001 0000000000000004 03 00000006 0000000000000005 0000000000000000 00",
	)
	checkState(t, s, want)
	checkNoState(t, want)
}

// The ID of a question is not in the bytes.
func TestStateWithoutIDs(t *testing.T) {
	want := stateBytes(zeroHead, empty, empty, empty, "0001"+oneProbe, empty)
	for _, id := range append(numbers(), 0x0109) {
		p := question(net+0x109, 0x0101, 999, 5)
		p.ID = id
		checkState(t, api.State{Probes: []api.Probe{p}}, want)
	}
}

func TestStateOfOwnersAddressesAndStations(t *testing.T) {
	for _, owner := range []string{"", "a", "owner123", "owner1234", "A\xff", "é", strings.Repeat("x", 255), strings.Repeat("x", 256), strings.Repeat("x", 257), strings.Repeat("x", 70000)} {
		s := api.State{Holders: []api.Holder{holder(net, owner, one), holder(1, "z", all)}}
		text := fmt.Sprintf("0002 0a010000 %02x %x 020000000001 00000001 01 7a ffffffffffff", len(owner)%256, owner)
		checkState(t, s, stateBytes(zeroHead, text, empty, empty, empty, empty))
	}
	for a, text := range addresses() {
		for m, station := range stations() {
			s := api.State{Holders: []api.Holder{holder(a, "q", m)}, Sweeps: []api.Sweep{sweepAt(a, 32, 0, 0)}, Known: []api.Known{known(a, sight(1, m, 0))}, Probes: []api.Probe{question(a, 0, 0, 0)}, Cases: []api.Case{proposal(a, 0, 0, 0)}}
			want := stateBytes(zeroHead,
				"0001"+text+"0171"+station,
				"0001"+text+"20 0000000000000000 0000",
				"0001"+text+"0001 01"+station+"0000000000000000",
				"0001"+text+"0000 0000000000000000 00",
				"0001"+text+"0000000000000000 0000000000000000 00")
			checkState(t, s, want)
			checkReadState(t, want, s, true)
		}
	}
}

// numbered has a number in each place where one stands.
func numbered(n int) api.State {
	return api.State{
		Now: n, Seq: n,
		Sweeps: []api.Sweep{sweepAt(1, n, n, n)},
		Known:  []api.Known{known(2, sight(api.Source(n), one, n))},
		Probes: []api.Probe{{Addr: 3, ID: n, Seq: n, Sent: n, Tries: n}},
		Cases:  []api.Case{proposal(4, n, n, api.Stage(n))},
	}
}

// Of a number that does not fit, the last bytes are there.
func TestStateOfNumbers(t *testing.T) {
	for n, eight := range map[int]string{
		0: "0000000000000000", 1: "0000000000000001", 255: "00000000000000ff", 256: "0000000000000100", 65535: "000000000000ffff", 65536: "0000000000010000",
		1 << 32: "0000000100000000", lastTick - 1: "000000ffffffffff", lastTick: "0000010000000000", lastTick + 1: "0000010000000001",
		math.MaxInt: "7fffffffffffffff", -1: "ffffffffffffffff", -2: "fffffffffffffffe", -256: "ffffffffffffff00", math.MinInt: "8000000000000000",
		0x0102030405060708: "0102030405060708", -0x0102030405060708: "fefdfcfbfaf9f8f8",
	} {
		two, last := eight[12:], eight[14:]
		checkState(t, numbered(n), stateBytes(eight+two, empty,
			"0001 00000001"+last+eight+two,
			"0001 00000002 0001"+last+"020000000001"+eight,
			"0001 00000003"+two+eight+last,
			"0001 00000004"+eight+eight+last))
	}
	for _, n := range numbers() {
		checkState(t, numbered(n), modelState(numbered(n)))
	}
}

// The ticks of a state, one by one at the first and at the last tick.
func TestStateOfTicks(t *testing.T) {
	for n, text := range map[int]string{0: "0000000000000000", lastTick: "0000010000000000"} {
		other := "0000000000000005"
		s := api.State{Now: n, Sweeps: []api.Sweep{sweepAt(1, 32, 5, 0)}}
		checkStateTick(t, s, stateBytes(text+"0000", empty, "0001 00000001 20"+other+"0000", empty, empty, empty))
		s = api.State{Now: 5, Sweeps: []api.Sweep{sweepAt(1, 32, n, 0)}}
		checkStateTick(t, s, stateBytes(other+"0000", empty, "0001 00000001 20"+text+"0000", empty, empty, empty))
		s = api.State{Known: []api.Known{known(2, sight(3, none, n))}}
		checkStateTick(t, s, stateBytes(zeroHead, empty, empty, "0001 00000002 0001 03 000000000000"+text, empty, empty))
		s = api.State{Probes: []api.Probe{question(3, 5, n, 5)}}
		checkStateTick(t, s, stateBytes(zeroHead, empty, empty, empty, "0001 00000003 0005"+text+"05", empty))
		s = api.State{Cases: []api.Case{proposal(4, n, lastTick, api.Done), proposal(4, n, 0, api.Raised)}}
		checkStateTick(t, s, stateBytes(zeroHead, empty, empty, empty, empty, "0002 00000004"+text+"0000010000000000 05 00000004"+text+"0000000000000000 00"))
		s = api.State{Cases: []api.Case{proposal(4, 0, n, api.Expired)}}
		checkStateTick(t, s, stateBytes(zeroHead, empty, empty, empty, empty, "0001 00000004 0000000000000000"+text+"03"))
	}
}

func checkStateTick(t *testing.T, s api.State, want []byte) {
	t.Helper()
	checkState(t, s, want)
	checkRight(t, s, true)
	checkReadState(t, want, s, true)
}

func TestStateOfTheLongestLists(t *testing.T) {
	s := longest()
	b := codec.State(s)
	if want := 10 + 2 + 48*19 + 2 + 16*15 + 2 + 96*(6+8*15) + 2 + 16*15 + 2 + 16*21; len(b) != want || len(b) > api.MaxRecord {
		t.Errorf("%d bytes, want %d", len(b), want)
	}
	checkState(t, s, modelState(s))
	checkRight(t, s, true)
	checkReadState(t, b, s, true)
	for _, s := range []api.State{long(48, 0, 0, 0, 0, 0), long(0, 16, 0, 0, 0, 0), long(0, 0, 96, 8, 0, 0), long(0, 0, 96, 1, 0, 0), long(0, 0, 0, 0, 16, 0), long(0, 0, 0, 0, 0, 16)} {
		checkState(t, s, modelState(s))
		checkRight(t, s, true)
		checkReadState(t, modelState(s), s, true)
	}
}

// tooLong are states of which a list is longer than it may be, and how long it is.
func tooLong() map[int][]api.State {
	states := map[int][]api.State{
		49: {long(49, 0, 0, 0, 0, 0)},
		17: {long(0, 17, 0, 0, 0, 0), long(0, 0, 0, 0, 17, 0), long(0, 0, 0, 0, 0, 17)},
		97: {long(0, 0, 97, 1, 0, 0)},
	}
	for _, n := range []int{255, 256, 257, 65535, 65536, 65537} {
		states[n] = []api.State{long(n, 0, 0, 0, 0, 0), long(0, n, 0, 0, 0, 0), long(0, 0, n, 1, 0, 0), long(0, 0, 0, 0, n, 0), long(0, 0, 0, 0, 0, n)}
	}
	return states
}

// All elements are there, behind the last bytes of their number.
func TestStateOfListsThatAreTooLong(t *testing.T) {
	for n, states := range tooLong() {
		for _, s := range states {
			b := codec.State(s)
			if !bytes.Equal(b, modelState(s)) {
				t.Fatalf("State of %d elements has %d bytes, want %d", n, len(b), len(modelState(s)))
			}
			checkRight(t, s, false)
			checkNoState(t, b)
		}
	}
	for _, n := range []int{9, 16, 255, 256, 257, 65535, 65536, 65537} {
		s := long(0, 0, 1, n, 0, 0)
		b := codec.State(s)
		want := fmt.Sprintf("%s 0000 0000 0001 0a010000 %04x", "00000000000007d0 ffff", n&0xffff)
		if !bytes.HasPrefix(b, ofHex(want)) || len(b) != 10+10+6+15*n {
			t.Errorf("State of %d sightings has %d bytes", n, len(b))
		}
		checkState(t, s, modelState(s))
		checkRight(t, s, false)
		checkNoState(t, b)
	}
}

// Any states: valid ones, and others, in each way.
func TestStateOfAnyStates(t *testing.T) {
	checkState(t, rich(), modelState(rich()))
	for _, x := range wrongs() {
		checkState(t, x.s, modelState(x.s))
	}
	checkState(t, longest(), modelState(longest()))
	s := rich()
	slices.Reverse(s.Holders)
	slices.Reverse(s.Known)
	slices.Reverse(s.Cases)
	checkState(t, s, modelState(s))
}
