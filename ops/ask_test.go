package ops_test

import (
	"slices"
	"testing"

	"terrier/api"
	"terrier/wire"
)

// packets are questions to addresses one behind the other, as they are sent.
func packets(a api.Addr, seq, n int) []wire.Packet {
	var ps []wire.Packet
	for i := range n {
		ps = append(ps, packet(a+api.Addr(i), (seq+i)%65536))
	}
	return ps
}

// asked are the same questions, as they wait from tick 1001 on.
func asked(a api.Addr, seq, n int) []api.Probe {
	var ps []api.Probe
	for i := range n {
		ps = append(ps, question(a+api.Addr(i), (seq+i)%65536, 1001, 0))
	}
	return ps
}

// wait are n questions of a tick.
func wait(n, sent int) []api.Probe {
	var ps []api.Probe
	for i := range n {
		ps = append(ps, question(net+api.Addr(100+i), 3000+i, sent, 1))
	}
	return ps
}

// again are the first of n late questions, which are asked again; the others wait for it.
func again(ps []api.Probe, n int) ([]api.Probe, []wire.Packet) {
	ps = slices.Clone(ps)
	var sent []wire.Packet
	for i := range min(n, len(ps)) {
		ps[i].Sent, ps[i].Tries = 1001, ps[i].Tries+1
		sent = append(sent, packet(ps[i].Addr, ps[i].Seq))
	}
	return ps, sent
}

// swept is a state at tick 1000 with one sweep of 256 addresses, which is due, and questions that wait.
func swept(ps []api.Probe) api.State {
	return api.State{Now: 1000, Seq: 9, Sweeps: []api.Sweep{sweepAt(net+256, 24, 7, 5)}, Probes: ps}
}

// sweptOn is how it is a tick later, when n addresses have been asked.
func sweptOn(ps []api.Probe, n int) api.State {
	return api.State{Now: 1001, Seq: 9 + n, Sweeps: []api.Sweep{sweepAt(net+256, 24, 7, 5+n)}, Probes: append(slices.Clone(ps), asked(net+261, 10, n)...)}
}

// P18.3, step 5: questions that are asked again

// Three ticks are Wait: one that was asked twice again is not asked any more.
func TestTickAsksAgain(t *testing.T) {
	s := api.State{Now: 1000, Seq: 9, Probes: []api.Probe{
		question(1, 11, 999, 0), question(2, 12, 998, 0), question(3, 13, 998, 1), question(4, 14, 998, 2), question(5, 15, 999, 2), question(6, 16, 0, 0), question(7, 17, 990, 8), question(8, 18, 1001, 1),
	}}
	want := later(s)
	want.Probes = []api.Probe{
		question(1, 11, 999, 0), question(2, 12, 1001, 1), question(3, 13, 1001, 2), question(5, 15, 999, 2), question(6, 16, 1001, 1), question(8, 18, 1001, 1),
	}
	checkDo(t, conf(), s, tick, want, []wire.Packet{packet(2, 12), packet(3, 13), packet(6, 16)}, 0)
	c := conf()
	c.Again = 0
	want.Probes = []api.Probe{s.Probes[0], s.Probes[4], s.Probes[7]}
	checkTick(t, c, s, want)
	c = conf()
	c.Wait = 4
	want.Probes = []api.Probe{s.Probes[0], s.Probes[1], s.Probes[2], s.Probes[3], s.Probes[4], question(6, 16, 1001, 1), s.Probes[7]}
	checkDo(t, c, s, tick, want, []wire.Packet{packet(6, 16)}, 0)
}

// Fewer than Rate, as many, and more; without sweeps.
func TestTickAsksAgainAtMostRate(t *testing.T) {
	for rate := 1; rate <= 20; rate++ {
		c := conf()
		c.Rate = rate
		for n := range maxProbes + 1 {
			s := api.State{Now: 1000, Seq: 9, Probes: wait(n, 990)}
			want := later(s)
			var sent []wire.Packet
			want.Probes, sent = again(s.Probes, rate)
			checkDo(t, c, s, tick, want, sent, 0)
		}
	}
}

// P18.3, step 5: room for sweeps

// Rate, 1 to 20, is shared by the questions that are asked again and those of the sweeps; never do more than 16 wait.
func TestTickSweepsWithTheRestOfRate(t *testing.T) {
	for rate := 1; rate <= 20; rate++ {
		c := conf()
		c.Rate = rate
		for n := range maxProbes + 1 {
			kept, sent := again(wait(n, 990), rate)
			room := min(rate-len(sent), maxProbes-n)
			checkDo(t, c, swept(wait(n, 990)), tick, sweptOn(kept, room), append(sent, packets(net+261, 10, room)...), 0)
		}
	}
}

// Questions that wait still, and are not asked again, take room only of the 16.
func TestTickSweepsBesideThoseThatWait(t *testing.T) {
	for rate := 1; rate <= 64; rate++ {
		c := conf()
		c.Rate = rate
		for n := range maxProbes + 1 {
			room := min(rate, maxProbes-n)
			checkDo(t, c, swept(wait(n, 999)), tick, sweptOn(wait(n, 999), room), packets(net+261, 10, room), 0)
		}
	}
}

// Questions that were given up make room in the same tick.
func TestTickSweepsInThePlaceOfThoseGivenUp(t *testing.T) {
	c := conf()
	c.Rate = 64
	for n := range maxProbes + 1 {
		ps := wait(maxProbes, 999)
		for i := range n {
			ps[i].Sent, ps[i].Tries = 990, 2
		}
		checkDo(t, c, swept(ps), tick, sweptOn(ps[n:], n), packets(net+261, 10, n), 0)
	}
}

// Written out: 15 and 16 that wait, with room by Rate of 0, of 1 and of all of it.
func TestTickSweepsWithFewPlaces(t *testing.T) {
	late := func(n, tail int) []api.Probe {
		ps := wait(n, 999)
		for i := n - tail; i < n; i++ {
			ps[i].Sent = 990
		}
		return ps
	}
	for _, x := range []struct{ n, again, room int }{{15, 0, 1}, {15, 1, 1}, {15, 3, 1}, {15, 4, 0}, {16, 0, 0}, {16, 3, 0}, {16, 4, 0}, {13, 3, 1}, {12, 3, 1}, {12, 4, 0}, {12, 0, 4}, {13, 0, 3}, {0, 0, 4}} {
		ps := late(x.n, x.again)
		want := slices.Clone(ps)
		var sent []wire.Packet
		for i := x.n - x.again; i < x.n; i++ {
			want[i].Sent, want[i].Tries = 1001, 2
			sent = append(sent, packet(ps[i].Addr, ps[i].Seq))
		}
		checkDo(t, conf(), swept(ps), tick, sweptOn(want, x.room), append(sent, packets(net+261, 10, x.room)...), 0)
	}
}

// Which sweeps

func TestTickWithoutSweepsThatAreDue(t *testing.T) {
	for _, due := range []int{1002, 1003, 5000, lastTick} {
		s := api.State{Now: 1000, Seq: 9, Sweeps: []api.Sweep{sweepAt(net, 30, due, 0), sweepAt(net+8, 30, due, 2)}}
		checkTick(t, conf(), s, later(s))
	}
	s := api.State{Now: 1000, Seq: 9, Sweeps: []api.Sweep{sweepAt(net, 30, 1001, 0)}}
	want := later(s)
	want.Seq = 13
	want.Sweeps = []api.Sweep{sweepAt(net, 30, 1016, 0)}
	want.Probes = asked(net, 10, 4)
	checkDo(t, conf(), s, tick, want, packets(net, 10, 4), 0)
}

// Several that are due: the one that is due first, and of those that are due at once the first one.
func TestTickOfSeveralSweeps(t *testing.T) {
	c := conf()
	c.Rate = 10
	s := api.State{Now: 1000, Seq: 9, Sweeps: []api.Sweep{
		sweepAt(net, 30, 1000, 0), sweepAt(net+8, 29, 990, 6), sweepAt(net+32, 32, 1001, 0), sweepAt(net+64, 31, 990, 1), sweepAt(net+66, 31, 1002, 0), sweepAt(net+128, 25, 1001, 3),
	}}
	want := later(s)
	want.Seq = 19
	want.Sweeps = []api.Sweep{
		sweepAt(net, 30, 1015, 0), sweepAt(net+8, 29, 1005, 0), sweepAt(net+32, 32, 1016, 0), sweepAt(net+64, 31, 1005, 0), sweepAt(net+66, 31, 1002, 0), sweepAt(net+128, 25, 1001, 5),
	}
	want.Probes = slices.Concat(asked(net+14, 10, 2), asked(net+65, 12, 1), asked(net, 13, 4), asked(net+32, 17, 1), asked(net+131, 18, 2))
	var sent []wire.Packet
	for _, p := range want.Probes {
		sent = append(sent, packet(p.Addr, p.Seq))
	}
	checkDo(t, c, s, tick, want, sent, 0)
}

// At the last tick sweeps are due, and stay due.
func TestTickSweepsAtTheEnd(t *testing.T) {
	s := api.State{Now: lastTick, Sweeps: []api.Sweep{sweepAt(5, 32, lastTick-7, 0)}}
	want := api.State{Now: lastTick, Seq: 1, Sweeps: []api.Sweep{sweepAt(5, 32, lastTick, 0)}, Probes: []api.Probe{question(5, 1, lastTick, 0)}}
	checkDo(t, conf(), s, tick, want, packets(5, 1, 1), 0)
	want.Probes = []api.Probe{question(5, 9, lastTick, 0)}
	s = want
	s.Probes = nil
	want.Probes[0].Seq, want.Seq = 2, 2
	checkDo(t, conf(), s, tick, want, packets(5, 2, 1), 0)
}

// The numbers of questions: behind 65535 comes 0.
func TestTickOfSeq(t *testing.T) {
	for _, seq := range []int{0, 1, 65531, 65532, 65533, 65534, 65535} {
		s := swept(nil)
		s.Seq = seq
		want := sweptOn(nil, 4)
		want.Seq = (seq + 4) % 65536
		want.Probes = asked(net+261, seq+1, 4)
		checkDo(t, conf(), s, tick, want, packets(net+261, seq+1, 4), 0)
	}
	s := swept(nil)
	s.Seq = 65534
	_, sent := do(t, s, tick)
	if got := []int{sent[0].Seq, sent[1].Seq, sent[2].Seq}; !slices.Equal(got, []int{65535, 0, 1}) {
		t.Errorf("the numbers are %v", got)
	}
}

// An address to which a question waits is passed: it takes a number and a turn, but nothing is sent.
func TestTickSweepsWhoIsAskedAlready(t *testing.T) {
	ps := []api.Probe{question(net+262, 3, 999, 0), question(net+264, 4, 1000, 1)}
	want := sweptOn(nil, 4)
	want.Probes = append(slices.Clone(ps), question(net+261, 10, 1001, 0), question(net+263, 12, 1001, 0))
	checkDo(t, conf(), swept(ps), tick, want, []wire.Packet{packet(net+261, 10), packet(net+263, 12)}, 0)
	// All of them: nothing is sent.
	ps = []api.Probe{question(net+264, 1, 1000, 0), question(net+263, 2, 1000, 0), question(net+262, 3, 1000, 0), question(net+261, 4, 1000, 0)}
	want = sweptOn(nil, 4)
	want.Probes = ps
	checkTick(t, conf(), swept(ps), want)
	// One that is asked again in the same tick, and one that is given up: it is asked anew.
	ps = []api.Probe{question(net+262, 3, 990, 0), question(net+261, 4, 990, 2)}
	want = sweptOn(nil, 3)
	want.Probes = []api.Probe{question(net+262, 3, 1001, 1), question(net+261, 10, 1001, 0), question(net+263, 12, 1001, 0)}
	checkDo(t, conf(), swept(ps), tick, want, []wire.Packet{packet(net+262, 3), packet(net+261, 10), packet(net+263, 12)}, 0)
}

// The ID is of the address, by 16 bits.
func TestTickAsksWithAnID(t *testing.T) {
	for _, a := range []api.Addr{0, 1, 65535, 65536, 65537, 0x0a01ffff, lastAddr} {
		s := api.State{Now: 1000, Sweeps: []api.Sweep{sweepAt(a, 32, 0, 0)}}
		_, sent := do(t, s, tick)
		if want := (wire.Packet{To: a, ID: int(a) & 65535, Seq: 1}); len(sent) != 1 || sent[0] != want {
			t.Errorf("what is sent to %d is %v", a, sent)
		}
	}
}

// Each address of a prefix is asked in its turn; the one that answers is seen, and the others are asked twice again and given up.
func TestTurnsOfASweep(t *testing.T) {
	s, _ := do(t, api.State{}, watch(net, 29))
	times := map[api.Addr]int{}
	// Six turns: the first one is due at tick 0, and the seventh at tick 90.
	for range 6*15 - 1 {
		var sent []wire.Packet
		s, sent = do(t, s, tick)
		if len(sent) > 4 || len(s.Probes) > maxProbes || !right(s) {
			t.Fatalf("sent %v in %+v", sent, s)
		}
		for _, p := range sent {
			times[p.To]++
			if p.To == net+3 {
				s, _ = do(t, s, saw(api.Echo, p.To, none))
				checkStatus(t, conf(), s, p.To, api.Rogue)
			}
		}
	}
	for a := net; a < net+8; a++ {
		want := 18
		if a == net+3 {
			want = 6
		}
		if times[a] != want {
			t.Errorf("%d was asked %d times", a, times[a])
		}
	}
	if len(s.Known) != 1 || len(s.Known[0].Seen) != 6 {
		t.Errorf("%v are known", s.Known)
	}
}
