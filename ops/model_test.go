package ops_test

import (
	"maps"
	"regexp"
	"slices"

	"terrier/api"
	"terrier/wire"
)

// model is a state in another shape, in which events happen by the words of the document, without any of the program.
type model struct {
	c         api.Config
	now, seq  int
	holders   map[api.Addr]api.Holder
	sweeps    map[api.Addr]api.Sweep
	seen      map[api.Addr][]api.Sight
	questions []api.Probe
	cases     []api.Case
}

func modelOf(c api.Config, s api.State) *model {
	m := &model{c: c, now: s.Now, seq: s.Seq, holders: map[api.Addr]api.Holder{}, sweeps: map[api.Addr]api.Sweep{}, seen: map[api.Addr][]api.Sight{}}
	for _, h := range s.Holders {
		m.holders[h.Addr] = h
	}
	for _, x := range s.Sweeps {
		m.sweeps[x.Block.Base] = x
	}
	for _, k := range s.Known {
		m.seen[k.Addr] = slices.Clone(k.Seen)
	}
	m.questions = slices.Clone(s.Probes)
	m.cases = slices.Clone(s.Cases)
	return m
}

func sorted[T any](of map[api.Addr]T) []api.Addr { return slices.Sorted(maps.Keys(of)) }

func (m *model) state() api.State {
	s := api.State{Now: m.now, Seq: m.seq, Probes: m.questions, Cases: m.cases}
	for _, a := range sorted(m.holders) {
		s.Holders = append(s.Holders, m.holders[a])
	}
	for _, a := range sorted(m.sweeps) {
		s.Sweeps = append(s.Sweeps, m.sweeps[a])
	}
	for _, a := range sorted(m.seen) {
		s.Known = append(s.Known, api.Known{Addr: a, Seen: m.seen[a]})
	}
	return s
}

// modelDo is what Do is to be.
func modelDo(c api.Config, s api.State, e api.Event) (api.State, []wire.Packet, api.Errno) {
	m := modelOf(c, s)
	if e.What == api.Tick {
		sent := m.tick()
		return m.state(), sent, 0
	}
	if err := m.change(e); err != 0 {
		return s, nil, err
	}
	return m.state(), nil, 0
}

func (m *model) change(e api.Event) api.Errno {
	a := e.Holder.Addr
	switch e.What {
	case api.Hold:
		return m.hold(e.Holder)
	case api.Drop:
		if _, ok := m.holders[a]; !ok {
			return api.ErrUnknown
		}
		delete(m.holders, a)
		m.end(a, api.Cancelled)
		return 0
	case api.Watch:
		return m.watch(e.Block)
	case api.Ignore:
		if x, ok := m.sweeps[e.Block.Base]; !ok || x.Block != e.Block {
			return api.ErrUnknown
		}
		delete(m.sweeps, e.Block.Base)
		return 0
	case api.Saw:
		return m.saw(a, e.Sight)
	case api.Approve, api.Reject:
		return m.judge(a, e.What)
	}
	return api.ErrArgument
}

var ownerForm = regexp.MustCompile(`^[a-z0-9]{1,8}$`)

func (m *model) hold(h api.Holder) api.Errno {
	_, taken := m.holders[h.Addr]
	switch {
	case !ownerForm.MatchString(h.Owner):
		return api.ErrArgument
	case taken:
		return api.ErrTaken
	case len(m.holders) == maxHolders:
		return api.ErrFull
	}
	m.holders[h.Addr] = h
	return 0
}

// span is from the first address of a prefix to the one behind its last; false: it is none.
func span(b api.Block) (int, int, bool) {
	if b.Bits < 0 || b.Bits > 32 {
		return 0, 0, false
	}
	size := 1 << (32 - b.Bits)
	return int(b.Base), int(b.Base) + size, int(b.Base)%size == 0
}

func (m *model) watch(b api.Block) api.Errno {
	from, to, ok := span(b)
	switch {
	case !ok:
		return api.ErrArgument
	case to-from > 256:
		return api.ErrRange
	}
	for _, x := range m.sweeps {
		if f, t, _ := span(x.Block); f < to && from < t {
			return api.ErrOverlap
		}
	}
	if len(m.sweeps) == maxSweeps {
		return api.ErrFull
	}
	m.sweeps[b.Base] = api.Sweep{Block: b, Due: m.now}
	return 0
}

func (m *model) saw(a api.Addr, x api.Sight) api.Errno {
	question := slices.IndexFunc(m.questions, func(p api.Probe) bool { return p.Addr == a })
	ss := m.seen[a]
	switch {
	case x.From == api.Echo && question < 0:
		return api.ErrUnknown
	case x.From < 0 || x.From > 3:
		return api.ErrArgument
	case len(ss) > 0 && ss[len(ss)-1].At > m.now:
		return api.ErrRange
	case len(ss) == 0 && len(m.seen) == maxKnown:
		return api.ErrFull
	}
	x.At = m.now
	if x.From == api.Echo {
		x.Mac = none
		m.questions = append(slices.Clone(m.questions[:question]), m.questions[question+1:]...)
	}
	ss = append(ss, x)
	m.seen[a] = ss[max(0, len(ss)-8):]
	m.end(a, api.Cancelled)
	return 0
}

// current is the case of an address that goes on; nil: there is none.
func (m *model) current(a api.Addr) *api.Case {
	for i, x := range m.cases {
		if x.Addr == a && x.Stage <= api.Approved {
			return &m.cases[i]
		}
	}
	return nil
}

func (m *model) end(a api.Addr, how api.Stage) {
	if x := m.current(a); x != nil {
		x.Stage, x.Ended = how, m.now
	}
}

func (m *model) judge(a api.Addr, what api.What) api.Errno {
	x := m.current(a)
	switch {
	case x == nil:
		return api.ErrUnknown
	case x.Stage != api.Raised:
		return api.ErrState
	case what == api.Approve:
		x.Stage = api.Approved
	default:
		m.end(a, api.Rejected)
	}
	return 0
}

// ago is how many ticks ago a tick was, which may be greater than the last one.
func (m *model) ago(at int) int { return m.now - min(at, lastTick) }

func (m *model) within(at, n int) bool { return m.ago(at) >= 0 && m.ago(at) < n }

// status is by a count of all that the last sightings say.
func (m *model) status(a api.Addr) api.Status {
	h, held := m.holders[a]
	ss := m.seen[a]
	fresh := 0
	stations := map[api.Mac]int{}
	for _, x := range ss[max(0, len(ss)-m.c.Need-1):] {
		if m.within(x.At, m.c.Fresh) {
			fresh++
			stations[x.Mac]++
		}
	}
	delete(stations, none)
	if len(stations) > 1 {
		return api.Conflict
	}
	if !held {
		if fresh > 0 {
			return api.Rogue
		}
		return api.Free
	}
	if h.Mac != none && len(stations) == 1 && stations[h.Mac] == 0 {
		return api.Rogue
	}
	if fresh >= m.c.Need {
		return api.Active
	}
	if len(ss) > 0 && !m.within(ss[len(ss)-1].At, m.c.Old) {
		return api.Stale
	}
	return api.Planned
}

func (m *model) tick() []wire.Packet {
	m.now = min(m.now+1, lastTick)
	for i, x := range m.cases {
		if x.Stage == api.Raised && m.ago(x.Raised) >= m.c.Open {
			m.cases[i].Stage, m.cases[i].Ended = api.Expired, m.now
		}
	}
	for i, x := range m.cases {
		if x.Stage != api.Approved {
			continue
		}
		how := api.Cancelled
		if m.status(x.Addr) == api.Stale {
			how = api.Done
			delete(m.holders, x.Addr)
		}
		m.cases[i].Stage, m.cases[i].Ended = how, m.now
	}
	for _, a := range sorted(m.holders) {
		if m.status(a) == api.Stale {
			m.raise(a)
		}
	}
	for _, a := range sorted(m.seen) {
		if _, held := m.holders[a]; !held && !m.within(m.seen[a][len(m.seen[a])-1].At, m.c.Old) {
			delete(m.seen, a)
		}
	}
	sent := m.askAgain()
	return append(sent, m.sweep(min(m.c.Rate-len(sent), maxProbes-len(m.questions)))...)
}

// raise is a case for an address, unless one goes on, or one holds as a no, or there is no room.
func (m *model) raise(a api.Addr) {
	quiet := func(x api.Case) bool { return x.Stage == api.Rejected && m.within(x.Ended, m.c.Quiet) }
	if m.current(a) != nil || slices.ContainsFunc(m.cases, func(x api.Case) bool { return x.Addr == a && quiet(x) }) {
		return
	}
	if len(m.cases) == maxCases {
		gone := -1
		for i := len(m.cases) - 1; i >= 0; i-- {
			x := m.cases[i]
			if x.Stage > api.Approved && !quiet(x) && (gone < 0 || x.Ended <= m.cases[gone].Ended) {
				gone = i
			}
		}
		if gone < 0 {
			return
		}
		m.cases = append(slices.Clone(m.cases[:gone]), m.cases[gone+1:]...)
	}
	m.cases = append(m.cases, api.Case{Addr: a, Raised: m.now})
}

func (m *model) askAgain() []wire.Packet {
	var kept []api.Probe
	var sent []wire.Packet
	for _, p := range m.questions {
		late := m.ago(p.Sent) >= m.c.Wait
		switch {
		case late && p.Tries >= m.c.Again:
		case late && len(sent) < m.c.Rate:
			p.Sent, p.Tries = m.now, p.Tries+1
			kept = append(kept, p)
			sent = append(sent, packet(p.Addr, p.Seq))
		default:
			kept = append(kept, p)
		}
	}
	m.questions = kept
	return sent
}

// sweep asks one address at a time: the next one of the sweep whose turn it is.
func (m *model) sweep(room int) []wire.Packet {
	var sent []wire.Packet
	behind := map[api.Addr]int{} // those that had their turn, which may be due again already
	for ; room > 0; room-- {
		turn, found := m.turn(behind)
		if !found {
			break
		}
		x := m.sweeps[turn]
		from, to, _ := span(x.Block)
		m.seq++
		if m.seq == 65536 {
			m.seq = 0
		}
		a := api.Addr(from + x.Next)
		if !slices.ContainsFunc(m.questions, func(p api.Probe) bool { return p.Addr == a }) {
			m.questions = append(m.questions, question(a, m.seq, m.now, 0))
			sent = append(sent, packet(a, m.seq))
		}
		x.Next++
		if from+x.Next == to {
			x.Next, x.Due = 0, min(x.Due+m.c.Every, lastTick)
			behind[turn]++
		}
		m.sweeps[turn] = x
	}
	return sent
}

func (m *model) turn(behind map[api.Addr]int) (api.Addr, bool) {
	var turn api.Addr
	found := false
	for _, base := range sorted(m.sweeps) {
		x := m.sweeps[base]
		if x.Due <= m.now && behind[base] == 0 && (!found || x.Due < m.sweeps[turn].Due) {
			turn, found = base, true
		}
	}
	return turn, found
}
