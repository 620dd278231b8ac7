package probe_test

import (
	"math"
	"slices"
	"testing"

	"terrier/api"
	"terrier/probe"
)

// waits has a Wait and an Again, and elsewhere numbers that would be seen in an answer if they counted.
func waits(wait, again int) api.Config {
	return api.Config{Fresh: 4, Old: 6, Need: 1, Every: 2, Rate: 1, Wait: wait, Again: again, Open: 9, Quiet: 7}
}

// sent has a question to an address be sent at a tick, after so many others.
func sent(a api.Addr, tick, tries int) api.Probe {
	return api.Probe{Addr: a, ID: int(a % 65536), Seq: int(a * 5 % 65536), Sent: tick, Tries: tries}
}

// list is a row of questions, written out.
func list(ps ...api.Probe) []api.Probe { return ps }

// checkLate asks twice, with room behind the list, whether what is answered is right, and whether list and answers are apart.
func checkLate(t *testing.T, c api.Config, ps []api.Probe, now, room int, want, wantAgain []api.Probe) {
	t.Helper()
	memory := slices.Concat(ps, behind())
	before := slices.Clone(memory)
	given := memory[:len(ps)]
	kept, again := probe.Late(c, given, now, room)
	secondKept, secondAgain := probe.Late(c, given, now, room)
	if !slices.Equal(kept, want) || !slices.Equal(again, wantAgain) {
		t.Fatalf("Late(%d, %d, %v, %d, %d) is %v, %v, want %v, %v", c.Wait, c.Again, ps, now, room, kept, again, want, wantAgain)
	}
	if !slices.Equal(secondKept, want) || !slices.Equal(secondAgain, wantAgain) {
		t.Fatalf("Late(%d, %d, %v, %d, %d) is %v, %v at the second call, want %v, %v", c.Wait, c.Again, ps, now, room, secondKept, secondAgain, want, wantAgain)
	}
	fill(kept)
	if !slices.Equal(memory, before) || !slices.Equal(again, wantAgain) {
		t.Fatalf("Late of %v answers a list that is the one that was given, or the other one", ps)
	}
	fill(again)
	if !slices.Equal(memory, before) {
		t.Fatalf("Late has the list %v be %v", before, memory)
	}
	fill(memory)
	if !slices.Equal(secondKept, want) || !slices.Equal(secondAgain, wantAgain) {
		t.Fatalf("Late of %v answers memory that was given, or answered", ps)
	}
	fill(secondAgain)
	if !slices.Equal(secondKept, want) {
		t.Fatalf("Late of %v answers two lists that share memory", ps)
	}
}

// checkKept asks whether all stay as they are, whatever the room is.
func checkKept(t *testing.T, c api.Config, ps []api.Probe, now int) {
	t.Helper()
	for _, room := range []int{math.MinInt, -1, 0, 1, len(ps), len(ps) + 1, math.MaxInt} {
		checkLate(t, c, ps, now, room, ps, nil)
	}
}

// checkGone asks whether none stays, whatever the room is.
func checkGone(t *testing.T, c api.Config, ps []api.Probe, now int) {
	t.Helper()
	for _, room := range []int{math.MinInt, -1, 0, 1, len(ps), len(ps) + 1, math.MaxInt} {
		checkLate(t, c, ps, now, room, nil, nil)
	}
}

// P15.3

func TestExample(t *testing.T) {
	ps := list(sent(7, 2, 0))
	checkKept(t, waits(3, 0), ps, 4)
	checkGone(t, waits(3, 0), ps, 5)
}

func TestLateOfNothing(t *testing.T) {
	for _, now := range []int{math.MinInt, -1, 0, 1, lastTick, math.MaxInt} {
		for _, c := range []api.Config{{}, waits(3, 1), waits(-1, -1), waits(math.MinInt, math.MaxInt)} {
			checkKept(t, c, nil, now)
			checkKept(t, c, []api.Probe{}, now)
		}
	}
}

// One that was sent less than Wait ticks ago is kept as it is, however often it was asked.
func TestLateByWait(t *testing.T) {
	for _, wait := range []int{1, 2, 3, 50, 1000, 1 << 20, 1 << 38} {
		for _, tick := range []int{0, 1, 2, 97, 1 << 32} {
			for _, tries := range []int{0, 1, 2, 3, 8} {
				ps := list(sent(7, tick, tries))
				for _, ago := range []int{0, 1, wait / 2, wait - 2, wait - 1} {
					if ago >= 0 && ago < wait {
						checkKept(t, waits(wait, 2), ps, tick+ago)
					}
				}
				for _, ago := range []int{wait, wait + 1, wait + 2, 2 * wait} {
					if tries >= 2 {
						checkGone(t, waits(wait, 2), ps, tick+ago)
						continue
					}
					next := list(sent(7, tick+ago, tries+1))
					checkLate(t, waits(wait, 2), ps, tick+ago, 1, next, next)
				}
			}
		}
	}
}

// What was sent at a tick ahead waits still.
func TestLateOfATickAhead(t *testing.T) {
	for _, wait := range []int{1, 2, 3, 50} {
		for _, now := range []int{0, 1, 2, 9, 100, lastTick - 9} {
			for _, ahead := range []int{1, 2, wait, wait + 1, 2*wait + 1, lastTick - now} {
				for _, tries := range []int{0, 1, 8} {
					checkKept(t, waits(wait, 1), list(sent(7, min(now+ahead, lastTick), tries)), now)
				}
			}
		}
	}
}

// At each Tries there is a question that waits too long: below Again it is asked again, and otherwise it goes.
func TestLateByAgain(t *testing.T) {
	for again := range 9 {
		for tries := range 9 {
			ps := list(sent(7, 20, tries))
			switch {
			case tries < again:
				next := list(sent(7, 25, tries+1))
				checkLate(t, waits(5, again), ps, 25, 1, next, next)
				checkRight(t, next, true)
			default:
				checkGone(t, waits(5, again), ps, 25)
			}
			checkKept(t, waits(5, again), ps, 24)
		}
	}
}

// Until it is gone, it is asked once at first, and as often as Again says besides, Wait ticks apart.
func TestAllTheTimesOfAQuestion(t *testing.T) {
	for wait := 1; wait <= 4; wait++ {
		for again := range 9 {
			ps := list(probe.Of(first, 3, 10))
			for now := 10; now <= 10+wait*(again+1)+3; now++ {
				tries := (now - 10) / wait
				var want, some []api.Probe
				if tries <= again {
					want = list(api.Probe{Addr: first, ID: 5, Seq: 3, Sent: 10 + wait*tries, Tries: tries})
				}
				if len(want) > 0 && tries > 0 && (now-10)%wait == 0 {
					some = want
				}
				checkLate(t, waits(wait, again), ps, now, 4, want, some)
				ps, _ = probe.Late(waits(wait, again), ps, now, 4)
			}
			if len(ps) != 0 {
				t.Errorf("with Wait %d and Again %d, %v waits still", wait, again, ps)
			}
		}
	}
}

// lateRow is 16 questions, all of them late at 30, with all that tells them apart in no order.
func lateRow() []api.Probe {
	ps := apart(16)
	for i := range ps {
		ps[i].Sent, ps[i].Tries = 20-i*7%16, i*5%3
	}
	return ps
}

// asked is how a question stands that was asked again at a tick.
func asked(p api.Probe, now int) api.Probe {
	p.Sent = now
	p.Tries++
	return p
}

// As many as there is room for are asked again, the first ones of the list; the others stay as they are.
func TestLateByRoom(t *testing.T) {
	ps := lateRow()
	for room := -2; room <= 20; room++ {
		want := slices.Clone(ps)
		var some []api.Probe
		for i := range min(max(room, 0), 16) {
			want[i] = asked(ps[i], 30)
			some = append(some, want[i])
		}
		checkLate(t, waits(5, 3), ps, 30, room, want, some)
		checkRight(t, want, true)
	}
	checkLate(t, waits(5, 3), ps, 30, math.MinInt, ps, nil)
	var all []api.Probe
	for _, p := range ps {
		all = append(all, asked(p, 30))
	}
	checkLate(t, waits(5, 3), ps, 30, math.MaxInt, all, all)
	checkLate(t, waits(5, 3), ps, 30, 1<<32, all, all)
}

// Those that are not asked again take no room: neither those that go, nor those that are kept.
func TestLateByRoomOfThoseThatAreAsked(t *testing.T) {
	gone, early := sent(1, 10, 2), sent(2, 28, 0)
	x, y, z := sent(3, 10, 0), sent(4, 25, 1), sent(5, 3, 1)
	c, now := waits(5, 2), 30
	x2, y2, z2 := asked(x, now), asked(y, now), asked(z, now)
	checkLate(t, c, list(gone, early, x, y, z), now, 0, list(early, x, y, z), nil)
	checkLate(t, c, list(gone, early, x, y, z), now, 1, list(early, x2, y, z), list(x2))
	checkLate(t, c, list(gone, early, x, y, z), now, 2, list(early, x2, y2, z), list(x2, y2))
	checkLate(t, c, list(gone, early, x, y, z), now, 3, list(early, x2, y2, z2), list(x2, y2, z2))
	checkLate(t, c, list(x, gone, y, early, z), now, 1, list(x2, y, early, z), list(x2))
	checkLate(t, c, list(x, gone, y, early, z), now, 2, list(x2, y2, early, z), list(x2, y2))
	checkLate(t, c, list(z, y, early, x, gone), now, 2, list(z2, y2, early, x), list(z2, y2))
	checkLate(t, c, list(z, early, gone, y), now, 2, list(z2, early, y2), list(z2, y2))
	checkLate(t, c, list(early, gone), now, 1, list(early), nil)
	checkLate(t, c, list(gone), now, 0, nil, nil)
	// One that goes is gone, also behind the last one for which there was room.
	checkLate(t, c, list(x, y, gone, z), now, 1, list(x2, y, z), list(x2))
	checkLate(t, c, list(x, y, gone, z), now, -1, list(x, y, z), nil)
}

// One that there was no room for has its turn later, also when it has waited longer, in the order of the list.
func TestLateOfThoseWithoutRoom(t *testing.T) {
	c := waits(3, 2)
	ps := list(sent(9, 5, 0), sent(8, 1, 1), sent(7, 4, 0))
	a, b := asked(ps[0], 8), asked(ps[1], 9)
	checkLate(t, c, ps, 8, 1, list(a, ps[1], ps[2]), list(a))
	checkLate(t, c, list(a, ps[1], ps[2]), 9, 1, list(a, b, ps[2]), list(b))
	d := asked(ps[2], 10)
	checkLate(t, c, list(a, b, ps[2]), 10, 1, list(a, b, d), list(d))
	a = asked(a, 11)
	checkLate(t, c, list(asked(ps[0], 8), b, d), 11, 5, list(a, b, d), list(a))
	checkLate(t, c, list(a, b, d), 12, 5, list(a, d), nil) // b was asked often enough
}

// The order of both lists is that of the list that is given, whatever else there is to order by.
func TestLateInOrder(t *testing.T) {
	p, q, r := sent(5, 9, 1), sent(3, 4, 0), sent(8, 6, 2)
	for _, ps := range [][]api.Probe{{p, q, r}, {p, r, q}, {q, p, r}, {q, r, p}, {r, p, q}, {r, q, p}} {
		all := list(asked(ps[0], 20), asked(ps[1], 20), asked(ps[2], 20))
		checkLate(t, waits(5, 3), ps, 20, 3, all, all)
		checkLate(t, waits(5, 3), ps, 20, 2, list(all[0], all[1], ps[2]), all[:2])
		checkLate(t, waits(5, 3), ps, 20, 1, list(all[0], ps[1], ps[2]), all[:1])
		checkKept(t, waits(50, 3), ps, 20)
	}
}

func TestLateAtTheLastTick(t *testing.T) {
	for _, now := range []int{lastTick, lastTick + 1, lastTick + 1000, 1 << 62, math.MaxInt} {
		for _, wait := range []int{1, 3, 50} {
			c := waits(wait, 2)
			checkKept(t, c, list(sent(7, lastTick-wait+1, 0), sent(9, lastTick, 8)), now)
			ps := list(sent(7, lastTick-wait, 1), sent(9, lastTick-wait, 2), sent(3, 0, 0))
			want := list(sent(7, lastTick, 2), sent(3, lastTick, 1))
			checkLate(t, c, ps, now, 2, want, want)
			checkRight(t, want, true)
			checkKept(t, c, want, now) // nothing comes behind the last tick
		}
	}
	checkKept(t, waits(3, 2), list(sent(7, lastTick-3, 0)), lastTick-1)
	checkLate(t, waits(3, 2), list(sent(7, lastTick-4, 0)), lastTick-1, 1, list(sent(7, lastTick-1, 1)), list(sent(7, lastTick-1, 1)))
}

// A tick below 0 is taken for 0.
func TestLateAtTicksBelow0(t *testing.T) {
	for _, now := range slices.Concat(lowTicks, []int{0}) {
		checkKept(t, waits(1, 2), list(sent(7, 0, 0), sent(9, 1, 8), sent(3, lastTick, 1)), now)
		// With a Wait of 0, which no valid configuration has, those of the same tick are late.
		want := list(sent(7, 0, 1), sent(9, 1, 8))
		checkLate(t, waits(0, 2), list(sent(7, 0, 0), sent(9, 1, 8), sent(3, 0, 2)), now, 9, want, want[:1])
	}
}

// Only Wait and Again count.
func TestLateByOtherFieldsOfAConfiguration(t *testing.T) {
	ps := list(sent(1, 10, 2), sent(2, 28, 0), sent(3, 10, 0), sent(4, 25, 1))
	want := list(ps[1], asked(ps[2], 30), asked(ps[3], 30))
	for _, n := range []int{math.MinInt, -1, 0, 1, 2, 3, 1000, math.MaxInt} {
		checkLate(t, api.Config{Fresh: n, Old: n, Need: n, Every: n, Rate: n, Wait: 5, Again: 2, Open: n, Quiet: n}, ps, 30, 9, want, want[1:])
	}
}

// Numbers that are not valid, where the promise says what is answered: they are taken as they are, and ticks by their Clamp.
func TestLateOfNumbersThatAreNotValid(t *testing.T) {
	p := sent(7, 10, 0)
	checkLate(t, waits(-1, 1), list(p), 9, 1, list(sent(7, 9, 1)), list(sent(7, 9, 1))) // 1 tick ahead is not less than -1
	checkKept(t, waits(-1, 1), list(p), 8)
	checkLate(t, waits(math.MinInt, 1), list(p), 0, 1, list(sent(7, 0, 1)), list(sent(7, 0, 1)))
	checkKept(t, waits(math.MaxInt, 1), list(p), math.MaxInt)
	checkKept(t, waits(lastTick+1, 1), list(sent(7, 0, 0)), math.MaxInt)
	checkGone(t, waits(lastTick, 0), list(sent(7, 0, 0)), math.MaxInt)
	checkGone(t, waits(3, -1), list(p), 30)
	checkGone(t, waits(3, math.MinInt), list(p, sent(9, 10, math.MinInt)), 30)
	checkLate(t, waits(3, math.MaxInt), list(sent(9, 10, math.MaxInt-1)), 30, 1, list(sent(9, 30, math.MaxInt)), list(sent(9, 30, math.MaxInt)))
	checkGone(t, waits(3, math.MaxInt), list(sent(9, 10, math.MaxInt)), 30)
	checkLate(t, waits(3, -4), list(sent(9, 10, -5)), 30, 1, list(sent(9, 30, -4)), list(sent(9, 30, -4)))
	for _, tick := range lowTicks { // as 0
		checkKept(t, waits(3, 1), list(sent(7, tick, 0)), 2)
		checkLate(t, waits(3, 1), list(sent(7, tick, 0)), 3, 1, list(sent(7, 3, 1)), list(sent(7, 3, 1)))
	}
	for _, tick := range highTicks { // as the last one
		checkKept(t, waits(3, 1), list(sent(7, tick, 0)), 2)
		checkKept(t, waits(3, 1), list(sent(7, tick, 0)), math.MaxInt)
	}
	// To one address twice, and more than there may be: each one by itself.
	many := slices.Concat(lateRow(), lateRow())
	var all []api.Probe
	for _, p := range many {
		all = append(all, asked(p, 30))
	}
	checkLate(t, waits(5, 3), many, 30, 32, all, all)
	checkLate(t, waits(5, 3), many, 30, 20, slices.Concat(all[:20], many[20:]), all[:20])
}
