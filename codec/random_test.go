package codec_test

import (
	"cmp"
	"math/rand"
	"slices"
	"testing"

	"terrier/api"
	"terrier/codec"
)

// random makes events, states and bytes; most of them are almost valid.
type random struct{ *rand.Rand }

func newRandom(seed int64) *random { return &random{rand.New(rand.NewSource(seed))} }

func (r *random) addr() api.Addr {
	return []api.Addr{net + api.Addr(r.Intn(400)), api.Addr(r.Uint32()), 0, lastAddr}[min(r.Intn(8), 3)]
}

func (r *random) mac() api.Mac {
	m := []api.Mac{none, one, group, all, distant}[r.Intn(5)]
	m[r.Intn(6)] ^= byte(1 << r.Intn(12))
	return m
}

func (r *random) tick() int {
	return []int{0, r.Intn(2000), r.Intn(lastTick + 1), lastTick - r.Intn(3), lastTick}[r.Intn(5)]
}

func (r *random) owner() string {
	const some = "abcxyz0189"
	owner := make([]byte, 1+r.Intn(8))
	for i := range owner {
		owner[i] = some[r.Intn(len(some))]
	}
	return string(owner)
}

// length is that of a list: often none, or as many as may be.
func (r *random) length(most int) int {
	return []int{0, 1, r.Intn(most + 1), most}[r.Intn(4)]
}

// rising are addresses in their order, each once.
func (r *random) rising(n int) []api.Addr {
	as := map[api.Addr]int{}
	for len(as) < n {
		as[r.addr()]++
	}
	var row []api.Addr
	for a := range as {
		row = append(row, a)
	}
	slices.Sort(row)
	return row
}

// state is one that is valid.
func (r *random) state() api.State {
	s := api.State{Now: r.tick(), Seq: r.Intn(65536)}
	for _, a := range r.rising(r.length(maxHolders)) {
		s.Holders = append(s.Holders, holder(a, r.owner(), r.mac()))
	}
	base := net
	for range r.length(maxSweeps) {
		bits := 24 + r.Intn(9)
		size := api.Addr(1) << (32 - bits)
		base = (base+size-1)&^(size-1) + size*api.Addr(r.Intn(3))
		s.Sweeps = append(s.Sweeps, sweepAt(base, bits, r.tick(), r.Intn(int(size))))
		base += size
	}
	for _, a := range r.rising(r.length(maxKnown)) {
		s.Known = append(s.Known, known(a, r.sights()...))
	}
	for _, a := range r.rising(r.length(maxProbes)) {
		s.Probes = append(s.Probes, question(a, r.Intn(65536), r.tick(), r.Intn(9)))
	}
	r.Shuffle(len(s.Probes), func(i, j int) { s.Probes[i], s.Probes[j] = s.Probes[j], s.Probes[i] })
	for _, a := range r.rising(r.length(maxCases)) {
		s.Cases = append(s.Cases, r.proposal(a))
	}
	r.Shuffle(len(s.Cases), func(i, j int) { s.Cases[i], s.Cases[j] = s.Cases[j], s.Cases[i] })
	return s
}

func (r *random) sights() []api.Sight {
	var ss []api.Sight
	for range 1 + r.Intn(maxSeen) {
		ss = append(ss, sight(api.Source(r.Intn(4)), r.mac(), r.tick()))
	}
	slices.SortFunc(ss, func(x, y api.Sight) int { return cmp.Compare(x.At, y.At) })
	return ss
}

func (r *random) proposal(a api.Addr) api.Case {
	x := proposal(a, r.tick(), 0, api.Stage(r.Intn(6)))
	if x.Stage > api.Approved {
		x.Ended = max(x.Raised, r.tick())
	}
	return x
}

// number is one that fits, mostly.
func (r *random) number() int {
	ns := numbers()
	return ns[r.Intn(len(ns))]
}

// spoil changes one thing in a state, which may leave it valid.
func (r *random) spoil(s *api.State) {
	n := r.number()
	switch r.Intn(7) {
	case 0:
		s.Now = n
	case 1:
		s.Seq = n
	case 2:
		spoilOne(r, s.Holders, func(h *api.Holder) {
			h.Owner = []string{"", "A", "abcdefghi", h.Owner + "x", "a b"}[r.Intn(5)]
		})
	case 3:
		spoilOne(r, s.Sweeps, func(x *api.Sweep) {
			*[]*int{&x.Block.Bits, &x.Due, &x.Next}[r.Intn(3)] = n
		})
	case 4:
		spoilOne(r, s.Known, func(k *api.Known) {
			spoilOne(r, k.Seen, func(x *api.Sight) { *[]*int{(*int)(&x.From), &x.At}[r.Intn(2)] = n })
		})
	case 5:
		spoilOne(r, s.Probes, func(p *api.Probe) { *[]*int{&p.ID, &p.Seq, &p.Sent, &p.Tries}[r.Intn(4)] = n })
	case 6:
		spoilOne(r, s.Cases, func(x *api.Case) { *[]*int{&x.Raised, &x.Ended, (*int)(&x.Stage)}[r.Intn(3)] = n })
	}
}

// spoilOne changes one element of a list, or has two of them change places, or has one stand there twice.
func spoilOne[T any](r *random, list []T, change func(x *T)) {
	if len(list) == 0 {
		return
	}
	i, j := r.Intn(len(list)), r.Intn(len(list))
	switch r.Intn(4) {
	case 0:
		list[i], list[j] = list[j], list[i]
	case 1:
		list[i] = list[j]
	default:
		change(&list[i])
	}
}

// turn changes a few bytes: other ones, fewer, or more.
func (r *random) turn(b []byte) []byte {
	b = slices.Clone(b)
	for range 1 + r.Intn(2) {
		if len(b) == 0 {
			return b
		}
		i := r.Intn(len(b))
		switch r.Intn(6) {
		case 0:
			b = slices.Delete(b, i, i+1)
		case 1:
			b = slices.Insert(b, i, byte(r.Intn(256)))
		case 2:
			b = b[:i]
		case 3:
			b[i] = byte(r.Intn(256))
		default:
			b[i] ^= 1 << r.Intn(8)
		}
	}
	return b
}

func TestRandomStates(t *testing.T) {
	r := newRandom(191)
	counts := map[string]int{}
	for range 2500 {
		s := r.state()
		if !modelRight(s) {
			t.Fatalf("the test made\n%+v", s)
		}
		b := modelState(s)
		checkState(t, s, b)
		checkRight(t, s, true)
		checkReadState(t, b, s, true)
		for range 3 {
			if checkAsModel(t, r.turn(b)) {
				counts["turned, valid"]++
			} else {
				counts["turned, none"]++
			}
		}
		for range 3 {
			r.spoil(&s)
			right := modelRight(s)
			checkState(t, s, modelState(s))
			checkRight(t, s, right)
			read := checkAsModel(t, codec.State(s))
			switch {
			case right:
				counts["spoilt, valid"]++
			case read:
				counts["spoilt, read"]++
			default:
				counts["spoilt, none"]++
			}
		}
	}
	for _, kind := range []string{"turned, valid", "turned, none", "spoilt, valid", "spoilt, read", "spoilt, none"} {
		if counts[kind] < 100 {
			t.Errorf("%s: only %d", kind, counts[kind])
		}
	}
}

// event is one that may not be now and then.
func (r *random) event() api.Event {
	e := api.Event{
		What:   api.What(r.Intn(8)),
		Holder: holder(r.addr(), r.owner(), r.mac()),
		Block:  api.Block{Base: r.addr(), Bits: r.Intn(33)},
		Sight:  sight(api.Source(r.Intn(4)), r.mac(), r.tick()),
	}
	switch r.Intn(12) {
	case 0:
		e.What = api.What(r.number())
	case 1:
		e.Holder.Owner = string(slices.Repeat([]byte("b"), r.Intn(600)))
	case 2:
		e.Holder.Owner = []string{"", "A", "abcdefghi", "a b", "é"}[r.Intn(5)]
	case 3:
		e.Block.Bits = r.number()
	case 4:
		e.Sight.From = api.Source(r.number())
	}
	return e
}

func TestRandomEvents(t *testing.T) {
	r := newRandom(192)
	valid := map[api.What]int{}
	none := 0
	for range 60000 {
		e := r.event()
		b := modelEvent(e)
		checkEvent(t, e, b)
		for _, x := range [][]byte{b, r.turn(b)} {
			want, ok := modelReadEvent(x)
			checkReadEvent(t, x, want, ok)
			if ok {
				valid[want.What]++
			} else {
				none++
			}
		}
	}
	for what := api.Tick; what < api.Whats; what++ {
		if valid[what] < 1000 {
			t.Errorf("%d: only %d", what, valid[what])
		}
	}
	if none < 10000 {
		t.Errorf("only %d are none's", none)
	}
}

// Bytes of which nothing is known: no call panics, and what is read has these bytes.
func TestRandomBytes(t *testing.T) {
	r := newRandom(193)
	for range 100000 {
		b := make([]byte, r.Intn(30))
		for i := range b {
			b[i] = byte(r.Intn(256) >> r.Intn(9))
		}
		want, ok := modelReadEvent(b)
		checkReadEvent(t, b, want, ok)
		checkAsModel(t, b)
	}
	for range 3000 {
		b := make([]byte, 10+r.Intn(400))
		for i := range b {
			b[i] = byte(r.Intn(256) >> (r.Intn(4) * 3))
		}
		want, ok := modelReadEvent(b)
		checkReadEvent(t, b, want, ok)
		checkAsModel(t, b)
	}
}
