package probe_test

import (
	"math"
	"slices"
	"testing"

	"terrier/api"
	"terrier/probe"
	"terrier/wire"
)

const (
	maxProbes = 16
	lastTick  = 1 << 40
	lastAddr  = api.Addr(0xffffffff)
	first     = api.Addr(0x0a010005)
)

// ticks are some that may be, and some that may not; the others are taken for the nearest one.
var (
	goodTicks = []int{0, 1, 2, 7, 1 << 16, 1 << 32, lastTick - 1, lastTick}
	lowTicks  = []int{-1, -2, -7, -1 << 16, -1 << 32, -lastTick, -lastTick - 1, math.MinInt + 1, math.MinInt}
	highTicks = []int{lastTick + 1, lastTick + 2, 1 << 41, 1 << 41 * 3, 1 << 62, math.MaxInt - 1, math.MaxInt}
)

// question has numbers that tell the address.
func question(a api.Addr) api.Probe {
	return api.Probe{Addr: a, ID: int(a % 65536), Seq: int(a*7) % 65536, Sent: 3 + int(a)%89, Tries: int(a) % 9}
}

func rowOf(as ...api.Addr) []api.Probe {
	var ps []api.Probe
	for _, a := range as {
		ps = append(ps, question(a))
	}
	return ps
}

// apart has n questions to unlike addresses, in no order of any of their parts.
func apart(n int) []api.Probe {
	var ps []api.Probe
	for i := range n {
		ps = append(ps, question(first+api.Addr(i)*0x9e3779b1))
	}
	return ps
}

// at is a list in which another question stands at a place.
func at(ps []api.Probe, i int, p api.Probe) []api.Probe {
	ps = slices.Clone(ps)
	ps[i] = p
	return ps
}

// changed is a list in which the question at a place is changed.
func changed(ps []api.Probe, i int, change func(p *api.Probe)) []api.Probe {
	p := ps[i]
	change(&p)
	return at(ps, i, p)
}

func checkRight(t *testing.T, ps []api.Probe, want bool) {
	t.Helper()
	before := slices.Clone(ps)
	for range 2 {
		if got := probe.Right(ps); got != want {
			t.Errorf("Right(%v) = %v", ps, got)
		}
	}
	if !slices.Equal(ps, before) {
		t.Errorf("Right changed %v to %v", before, ps)
	}
}

// checkEach has each question of several lists, in turn, be changed.
func checkEach(t *testing.T, change func(p *api.Probe), want bool) {
	t.Helper()
	for _, n := range []int{1, 2, 3, 15, 16} {
		for i := range n {
			checkRight(t, changed(apart(n), i, change), want)
		}
	}
}

// P15.1: Right

func TestRightByLength(t *testing.T) {
	checkRight(t, nil, true)
	checkRight(t, []api.Probe{}, true)
	for _, n := range []int{0, 1, 2, 3, 14, 15, 16, 17, 18, 31, 32, 33, 1000} {
		checkRight(t, apart(n), n <= maxProbes)
	}
}

// The list may have room behind it, with questions that do not count.
func TestRightOfTheListOnly(t *testing.T) {
	ps := append(apart(16), make([]api.Probe, 9)...)
	for n := range 17 {
		checkRight(t, ps[:n], true)
	}
	checkRight(t, ps[:17], false)
	double := append(apart(3), apart(3)...)
	checkRight(t, double[:3], true)
	checkRight(t, double[3:], true)
	checkRight(t, double[1:4], true)
	checkRight(t, double[:4], false)
}

func TestRightByAddresses(t *testing.T) {
	for _, n := range []int{2, 3, 5, 15, 16} {
		for i := range n {
			for j := range n {
				ps := apart(n)
				checkRight(t, at(ps, i, ps[j]), i == j)
				// To one address, and all else that may differ does.
				other := api.Probe{Addr: ps[j].Addr, ID: ps[j].ID, Seq: ps[j].Seq ^ 1, Sent: ps[j].Sent + 1, Tries: 8 - ps[j].Tries}
				checkRight(t, at(ps, i, other), i == j)
			}
		}
	}
	// Each two addresses are unlike, in one bit or in all; the order does not count.
	for bit := range 32 {
		a := first ^ 1<<bit
		checkRight(t, rowOf(first, a), true)
		checkRight(t, rowOf(a, first), true)
		checkRight(t, rowOf(first, a, first), false)
		checkRight(t, rowOf(a, first, a), false)
		checkRight(t, rowOf(first, first, a), false)
		checkRight(t, rowOf(a, first, first), false)
	}
	checkRight(t, rowOf(0, lastAddr, 0x80000000, 0x7fffffff, 1), true)
	checkRight(t, rowOf(lastAddr, 1, 0), true)
	checkRight(t, rowOf(0, 0), false)
	checkRight(t, rowOf(0, lastAddr, 0), false)
	checkRight(t, rowOf(lastAddr, 0, lastAddr), false)
}

// All but the addresses is alike.
func TestRightOfQuestionsThatAreAlike(t *testing.T) {
	var ps []api.Probe
	for i := range maxProbes {
		ps = append(ps, api.Probe{Addr: api.Addr(i)<<16 | 9, ID: 9, Seq: 5, Sent: 6, Tries: 7})
	}
	checkRight(t, ps, true)
	checkRight(t, at(ps, 15, ps[0]), false)
	checkRight(t, at(ps, 8, ps[7]), false)
}

func TestRightByID(t *testing.T) {
	for _, a := range []api.Addr{0, 1, 5, 0xffff, 0x10000, 0x10005, 0x1ffff, first, 0x7fffffff, 0x80000000, 0xffff0000, 0xffff7fff, 0xffff8000, lastAddr} {
		low := int(a % 65536)
		for _, id := range []int{
			low, low - 1, low + 1, low + 65536, low - 65536, low + 1<<32, -low, ^low, low ^ 0x8000, int(int16(low)),
			0, 1, -1, 65535, 65536, int(a), int(a >> 16), int(int32(a)), math.MinInt, math.MaxInt,
		} {
			checkRight(t, []api.Probe{{Addr: a, ID: id}}, id == low)
		}
	}
	for k := range 65536 {
		a := api.Addr(k)*65537 + 0x30000
		if !probe.Right([]api.Probe{{Addr: a, ID: int(a % 65536)}}) {
			t.Errorf("Right is false of the ID of address %x", a)
		}
	}
	for _, d := range []int{-65536, -1, 1, 65536, 1 << 32} {
		checkEach(t, func(p *api.Probe) { p.ID += d }, false)
	}
}

func TestRightBySeq(t *testing.T) {
	for _, seq := range []int{0, 1, 255, 256, 32767, 32768, 65534, 65535} {
		checkEach(t, func(p *api.Probe) { p.Seq = seq }, true)
	}
	for _, seq := range []int{-1, -2, -65535, -65536, -1 << 32, math.MinInt, 65536, 65537, 131071, 1 << 31, 1 << 32, math.MaxInt} {
		checkEach(t, func(p *api.Probe) { p.Seq = seq }, false)
	}
}

func TestRightBySent(t *testing.T) {
	for _, sent := range goodTicks {
		checkEach(t, func(p *api.Probe) { p.Sent = sent }, true)
	}
	for _, sent := range slices.Concat(lowTicks, highTicks) {
		checkEach(t, func(p *api.Probe) { p.Sent = sent }, false)
	}
}

func TestRightByTries(t *testing.T) {
	for tries := -20; tries <= 300; tries++ {
		checkEach(t, func(p *api.Probe) { p.Tries = tries }, tries >= 0 && tries <= 8)
	}
	for _, tries := range []int{math.MinInt, -1 << 32, 1 << 32, 1<<32 + 8, math.MaxInt} {
		checkEach(t, func(p *api.Probe) { p.Tries = tries }, false)
	}
}

func TestRightWithSeveralFaults(t *testing.T) {
	checkRight(t, make([]api.Probe, 1), true)
	checkRight(t, make([]api.Probe, 2), false)
	checkRight(t, make([]api.Probe, 17), false)
	checkRight(t, changed(apart(17), 16, func(p *api.Probe) { p.Seq = -1 }), false)
	checkRight(t, []api.Probe{{Addr: 5, ID: 6, Seq: -1, Sent: -1, Tries: 9}}, false)
}

// P15.1: Of

func checkOf(t *testing.T, a api.Addr, seq, now int, want api.Probe) {
	t.Helper()
	got := probe.Of(a, seq, now)
	if got != want || probe.Of(a, seq, now) != got {
		t.Errorf("Of(%x, %d, %d) is %v, want %v", a, seq, now, got, want)
	}
	checkRight(t, []api.Probe{got}, true)
}

func TestOfByAddress(t *testing.T) {
	for a, id := range map[api.Addr]int{
		0: 0, 1: 1, 5: 5, 0x7fff: 0x7fff, 0x8000: 0x8000, 0xffff: 0xffff, 0x10000: 0, 0x10001: 1, 0x18000: 0x8000, 0x1ffff: 0xffff,
		0x0a010005: 5, 0x0a01fffe: 0xfffe, 0x12345678: 0x5678, 0x7fffffff: 0xffff, 0x80000000: 0, 0xffff0000: 0, 0xffff8001: 0x8001, lastAddr: 0xffff,
	} {
		checkOf(t, a, 10, 4, api.Probe{Addr: a, ID: id, Seq: 10, Sent: 4})
	}
	for k := range 65536 {
		a := api.Addr(k)*65537 + 0x90000
		if p := probe.Of(a, 1, 2); p != (api.Probe{Addr: a, ID: int(a % 65536), Seq: 1, Sent: 2}) {
			t.Errorf("Of(%x) is %v", a, p)
		}
	}
}

func TestOfBySeq(t *testing.T) {
	for seq, want := range map[int]int{
		0: 0, 1: 1, 10: 10, 255: 255, 256: 256, 32767: 32767, 32768: 32768, 65534: 65534, 65535: 65535,
		65536: 0, 65537: 1, 131071: 65535, 131072: 0, 0x2000a: 10, 0x12345678: 0x5678, 1 << 31: 0, 1<<31 - 1: 65535, 1 << 32: 0, 1<<32 + 7: 7,
		1 << 62: 0, math.MaxInt: 65535, math.MaxInt - 1: 65534,
		-1: 65535, -2: 65534, -10: 65526, -32768: 32768, -65535: 1, -65536: 0, -65537: 65535, -1 << 32: 0, math.MinInt: 0, math.MinInt + 1: 1,
	} {
		checkOf(t, first, seq, 4, api.Probe{Addr: first, ID: 5, Seq: want, Sent: 4})
	}
	for seq := -70000; seq < 140000; seq++ {
		if p := probe.Of(first, seq, 4); p != (api.Probe{Addr: first, ID: 5, Seq: (seq + 2*65536) % 65536, Sent: 4}) {
			t.Errorf("Of at %d is %v", seq, p)
		}
	}
}

func TestOfByTick(t *testing.T) {
	for _, now := range goodTicks {
		checkOf(t, first, 10, now, api.Probe{Addr: first, ID: 5, Seq: 10, Sent: now})
	}
	for _, now := range lowTicks {
		checkOf(t, first, 10, now, api.Probe{Addr: first, ID: 5, Seq: 10, Sent: 0})
		checkOf(t, lastAddr, now, now, api.Probe{Addr: lastAddr, ID: 65535, Seq: now & 65535, Sent: 0})
	}
	for _, now := range highTicks {
		checkOf(t, first, 10, now, api.Probe{Addr: first, ID: 5, Seq: 10, Sent: lastTick})
		checkOf(t, 0, now, now, api.Probe{Addr: 0, ID: 0, Seq: now & 65535, Sent: lastTick})
	}
}

// P15.1: Packet

func TestPacket(t *testing.T) {
	// As it is, also where no valid question has such a number.
	ends := []int{0, 1, 5, 32768, 65535, 65536, 65541, 1 << 32, -1, -65536, math.MinInt, math.MaxInt}
	for _, a := range []api.Addr{0, 1, 5, 0x10005, first, 0x80000000, lastAddr} {
		for _, id := range ends {
			for _, seq := range ends {
				for _, p := range []api.Probe{{Addr: a, ID: id, Seq: seq}, {Addr: a, ID: id, Seq: seq, Sent: 77, Tries: 5}, {Addr: a, ID: id, Seq: seq, Sent: -1, Tries: 9}} {
					if got, want := probe.Packet(p), (wire.Packet{To: a, ID: id, Seq: seq}); got != want {
						t.Errorf("Packet(%v) is %v, want %v", p, got, want)
					}
				}
			}
		}
	}
}

// Each of the fields that are zero, asked for by its name.
func TestOtherFieldsOfPacketAreZero(t *testing.T) {
	for _, q := range append(apart(16), api.Probe{}, api.Probe{Addr: lastAddr, ID: 65535, Seq: 65535, Sent: lastTick, Tries: 8}) {
		p := probe.Packet(q)
		if p.Answer || p.From != 0 || p.Mac != (api.Mac{}) || p.To != q.Addr || p.ID != q.ID || p.Seq != q.Seq {
			t.Errorf("Packet(%v) is %v", q, p)
		}
	}
}

// What is sent is what is read again, and what answers it is what Match asks for.
func TestQuestionOverTheWire(t *testing.T) {
	for _, a := range []api.Addr{0, 5, first, 0x80008000, lastAddr} {
		for _, seq := range []int{0, 7, 65535, 65536, -1} {
			q := probe.Of(a, seq, 9)
			p, err := wire.ReadEcho(wire.Echo(probe.Packet(q)))
			if err != 0 || p != probe.Packet(q) {
				t.Errorf("%v is read as %v, %v", probe.Packet(q), p, err)
			}
			answer := wire.Packet{Answer: true, From: p.To, To: p.From, ID: p.ID, Seq: p.Seq}
			if left, err := probe.Match([]api.Probe{q}, answer); err != 0 || len(left) != 0 {
				t.Errorf("Match of %v is %v, %v", answer, left, err)
			}
		}
	}
}
