package probe_test

import (
	"math"
	"math/rand"
	"slices"
	"testing"

	"terrier/api"
	"terrier/config"
	"terrier/probe"
	"terrier/wire"
)

// modelLate says of each question by itself what becomes of it, and then has all but the first ones wait for a later call.
func modelLate(c api.Config, ps []api.Probe, now, room int) ([]api.Probe, []api.Probe) {
	now = min(max(now, 0), lastTick)
	var late []int
	gone := map[int]int{}
	for i, p := range ps {
		if now < p.Sent+c.Wait {
			continue
		}
		if p.Tries < c.Again {
			late = append(late, i)
		} else {
			gone[i]++
		}
	}
	late = late[:min(max(room, 0), len(late))]
	var kept, again []api.Probe
	for i, p := range ps {
		if slices.Contains(late, i) {
			p = api.Probe{Addr: p.Addr, ID: p.ID, Seq: p.Seq, Sent: now, Tries: p.Tries + 1}
			again = append(again, p)
		}
		if gone[i] == 0 {
			kept = append(kept, p)
		}
	}
	return kept, again
}

func checkModelLate(t *testing.T, c api.Config, ps []api.Probe, now, room int) {
	t.Helper()
	kept, again := probe.Late(c, ps, now, room)
	want, wantAgain := modelLate(c, ps, now, room)
	if !slices.Equal(kept, want) || !slices.Equal(again, wantAgain) {
		t.Fatalf("Late(%d, %d, %v, %d, %d) is %v, %v, want %v, %v", c.Wait, c.Again, ps, now, room, kept, again, want, wantAgain)
	}
}

// Every list of three questions that were sent at one of five ticks, and asked again up to three times.
func TestEverySmallLate(t *testing.T) {
	for set := range 5 * 5 * 5 * 4 * 4 * 4 {
		ps := list(
			sent(9, set%5, set/125%4),
			sent(3, set/5%5, set/500%4),
			sent(5, set/25%5, set/2000%4),
		)
		for wait := 1; wait <= 3; wait++ {
			for again := range 4 {
				for room := range 5 {
					checkModelLate(t, api.Config{Wait: wait, Again: again}, ps, 4, room-1)
				}
			}
		}
	}
}

func TestRandomLate(t *testing.T) {
	r := rand.New(rand.NewSource(153))
	for range 30000 {
		c := config.Fit(api.Config{Wait: r.Intn(1 << r.Intn(8)), Again: r.Intn(10)})
		now := r.Intn(300) - 5
		if r.Intn(5) == 0 {
			now = lastTick + r.Intn(300) - 290
		}
		var ps []api.Probe
		for _, p := range apart(r.Intn(maxProbes + 1)) {
			p.Sent = min(max(now+5-r.Intn(2*c.Wait+10), 0), lastTick)
			p.Tries = r.Intn(9)
			ps = append(ps, p)
		}
		r.Shuffle(len(ps), func(i, j int) { ps[i], ps[j] = ps[j], ps[i] })
		checkRight(t, ps, true)
		checkModelLate(t, c, ps, now, r.Intn(20)-2)
		kept, again := probe.Late(c, ps, now, r.Intn(20))
		checkRight(t, kept, true)
		checkRight(t, again, true)
	}
}

// waiting is a model of what waits: where in the order each address came in, and its question.
type waiting struct {
	order     []api.Addr
	questions map[api.Addr]api.Probe
}

func (w *waiting) list() []api.Probe {
	var ps []api.Probe
	for _, a := range w.order {
		ps = append(ps, w.questions[a])
	}
	return ps
}

func (w *waiting) remove(a api.Addr) {
	delete(w.questions, a)
	w.order = slices.DeleteFunc(slices.Clone(w.order), func(b api.Addr) bool { return a == b })
}

func (w *waiting) put(t *testing.T, ps []api.Probe, p api.Probe) ([]api.Probe, api.Errno) {
	t.Helper()
	_, taken := w.questions[p.Addr]
	switch {
	case taken:
		checkPut(t, ps, p, nil, api.ErrTaken)
		return ps, api.ErrTaken
	case len(w.order) == maxProbes:
		checkPut(t, ps, p, nil, api.ErrFull)
		return ps, api.ErrFull
	}
	w.order = append(w.order, p.Addr)
	w.questions[p.Addr] = p
	checkPut(t, ps, p, w.list(), 0)
	got, err := probe.Put(ps, p)
	return got, err
}

func (w *waiting) match(t *testing.T, ps []api.Probe, p wire.Packet) ([]api.Probe, api.Errno) {
	t.Helper()
	q, asked := w.questions[p.From]
	if !asked || !p.Answer || q.ID != p.ID || q.Seq != p.Seq {
		checkMatch(t, ps, p, nil, api.ErrUnknown)
		return ps, api.ErrUnknown
	}
	w.remove(p.From)
	checkMatch(t, ps, p, w.list(), 0)
	got, err := probe.Match(ps, p)
	return got, err
}

func (w *waiting) late(t *testing.T, c api.Config, ps []api.Probe, now, room int) []api.Probe {
	t.Helper()
	checkModelLate(t, c, ps, now, room)
	kept, again := probe.Late(c, ps, now, room)
	for _, p := range ps {
		if !slices.ContainsFunc(kept, func(q api.Probe) bool { return q.Addr == p.Addr }) {
			w.remove(p.Addr)
		}
	}
	for _, p := range again {
		w.questions[p.Addr] = p
	}
	if !slices.Equal(kept, w.list()) {
		t.Fatalf("after Late there are %v, want %v", kept, w.list())
	}
	return kept
}

// Tick by tick: questions are put, some are answered, right or wrong, and the late ones are asked again.
func TestRandomTicks(t *testing.T) {
	r := rand.New(rand.NewSource(15))
	count := [api.ErrArgument + 1]int{}
	for range 40 {
		w := &waiting{questions: map[api.Addr]api.Probe{}}
		c := config.Fit(api.Config{Wait: r.Intn(8), Again: r.Intn(5)})
		var ps []api.Probe
		seq := 65000
		for now := range 300 {
			for range r.Intn(6) {
				var err api.Errno
				ps, err = w.put(t, ps, probe.Of(first+api.Addr(r.Intn(40))*0x5001, seq, now))
				count[err]++
				seq += 3
			}
			for range r.Intn(4) {
				p := wire.Packet{Answer: true, From: first}
				if len(ps) > 0 {
					p = answer(ps[r.Intn(len(ps))])
				}
				switch r.Intn(12) {
				case 0:
					p.Seq++
				case 1:
					p.ID--
				case 2:
					p.From += 0x10000
				case 3:
					p.Answer = false
				}
				var err api.Errno
				ps, err = w.match(t, ps, p)
				count[err]++
			}
			ps = w.late(t, c, ps, now, r.Intn(6)-1)
			checkRight(t, ps, true)
		}
	}
	for _, e := range []api.Errno{0, api.ErrTaken, api.ErrFull, api.ErrUnknown} {
		if count[e] < 1000 {
			t.Errorf("%d came %d times only", e, count[e])
		}
	}
}

// A list that a call returned stays as it was when later calls are made with it.
func TestListsStayAsTheyWere(t *testing.T) {
	type kept struct{ list, copy []api.Probe }
	var all []kept
	keep := func(ps []api.Probe) { all = append(all, kept{ps, slices.Clone(ps)}) }
	c := waits(2, 1)
	var ps []api.Probe
	for now := range 200 {
		// Answers of one list, each of which may have room for the next one.
		p := probe.Of(api.Addr(now*5), now, now)
		other, _ := probe.Put(ps, probe.Of(api.Addr(now*5+1), now, now))
		keep(other)
		if more, err := probe.Put(ps, p); err == 0 {
			ps = more
		}
		keep(ps)
		if now%3 == 0 {
			left, _ := probe.Match(ps, answer(ps[len(ps)/2]))
			keep(left)
			ps, _ = probe.Match(ps, answer(ps[0]))
			keep(ps)
		}
		late, asked := probe.Late(c, ps, now, 1)
		keep(late)
		keep(asked)
		ps, asked = probe.Late(c, ps, now, 3)
		keep(ps)
		keep(asked)
	}
	for i, k := range all {
		if !slices.Equal(k.list, k.copy) {
			t.Errorf("list %d was %v, and is %v", i, k.copy, k.list)
		}
	}
}

// Lists and numbers that are not valid: whatever is answered, no call panics, and each one ends.
func TestArgumentsThatAreNotValid(t *testing.T) {
	lists := [][]api.Probe{nil, apart(17), apart(1000), make([]api.Probe, 17), make([]api.Probe, 100000), slices.Concat(apart(9), apart(9))}
	ends := []int{math.MinInt, math.MinInt + 1, -lastTick - 1, -65536, -2, -1, 0, 1, 8, 9, 65535, 65536, 1 << 32, lastTick, lastTick + 1, math.MaxInt - 1, math.MaxInt}
	for _, n := range ends {
		for _, p := range []api.Probe{{ID: n}, {Seq: n}, {Sent: n}, {Tries: n}, {Addr: lastAddr, ID: n, Seq: n, Sent: n, Tries: n}} {
			lists = append(lists, list(p), list(question(5), p, p), slices.Concat(apart(16), list(p)))
		}
	}
	for _, ps := range lists {
		probe.Right(ps)
		for _, n := range ends {
			for _, m := range []int{math.MinInt, -1, 0, 1, math.MaxInt} {
				probe.Late(api.Config{Wait: n, Again: m}, ps, m, n)
				probe.Late(api.Config{Wait: m, Again: n}, ps, n, m)
			}
			probe.Put(ps, api.Probe{Addr: api.Addr(n), ID: n, Seq: n, Sent: n, Tries: n})
			probe.Match(ps, wire.Packet{Answer: n > 0, From: api.Addr(n), To: api.Addr(n), ID: n, Seq: n})
		}
	}
	for _, n := range ends {
		for _, m := range ends {
			probe.Of(api.Addr(n), n, m)
			probe.Packet(api.Probe{Addr: api.Addr(m), ID: n, Seq: m, Sent: n, Tries: m})
		}
	}
}
