package daemon_test

import (
	"math/rand"
	"regexp"
	"slices"
	"testing"

	"terrier/api"
	"terrier/codec"
	"terrier/config"
	"terrier/daemon"
	"terrier/disk"
	"terrier/ops"
	"terrier/wal"
	"terrier/wire"
)

// model keeps no state: each time it is worked out from the records of its log, on a twin of the daemon's disk.
type model struct {
	c   api.Config
	log *wal.Log
}

func modelOpen(c api.Config, d *disk.Disk) (*model, api.Errno) {
	l, err := wal.Open(d)
	if err != 0 {
		return nil, err
	}
	m := &model{c, l}
	for i, b := range l.Records() {
		_, isState := codec.ReadState(b)
		_, isEvent := codec.ReadEvent(b)
		if i == 0 && len(b) > 0 && !isState || i > 0 && !isEvent {
			return nil, api.ErrForm
		}
	}
	return m, 0
}

func (m *model) state() api.State {
	records := m.log.Records()
	s, _ := codec.ReadState(records[0])
	for _, b := range records[1:] {
		e, _ := codec.ReadEvent(b)
		s = behind(m.c, s, e)
	}
	return s
}

func (m *model) face() face {
	f := faceWith(m.c, m.state(), m.log.Turn(), len(m.log.Records())-1)
	f.only = m.log.Broken()
	return f
}

func (m *model) keep() api.Errno { return m.log.Begin(codec.State(m.state())) }

var ownerForm = regexp.MustCompile(`^[a-z0-9]{1,8}$`)

// accepts tells whether an event may be logged, by the words.
func accepts(e api.Event) bool {
	switch e.What {
	case api.Hold:
		return ownerForm.MatchString(e.Holder.Owner) && e.Holder.Mac[0]%2 == 0
	case api.Saw:
		return e.Sight.From >= 0 && e.Sight.From <= 3
	}
	return e.What >= 0 && e.What <= 7
}

func (m *model) do(e api.Event) ([]wire.Packet, api.Errno) {
	_, sent, err := ops.Do(m.c, m.state(), e)
	switch {
	case m.log.Broken():
		err = api.ErrOnly
	case !accepts(e):
		err = api.ErrArgument
	case err == 0:
		b := codec.Event(e)
		full := m.log.Room() < wal.Sectors(len(b))
		if full {
			err = m.keep()
		}
		if err == 0 {
			err = m.log.Append(b)
		}
	}
	if err != 0 {
		return nil, err
	}
	return sent, 0
}

// random makes configurations, events and accidents.
type random struct{ *rand.Rand }

func newRandom(seed int64) *random { return &random{rand.New(rand.NewSource(seed))} }

func (r *random) config() api.Config {
	n := func(most int) int { return r.Intn(1 + r.Intn(most)) }
	fresh := n(8)
	return config.Fit(api.Config{Fresh: fresh, Old: fresh + n(8), Need: n(4), Every: n(12), Rate: n(20), Wait: n(5), Again: n(4), Open: n(12), Quiet: n(12)})
}

func (r *random) addr() api.Addr { return net + api.Addr(r.Intn(12)) }

func (r *random) mac() api.Mac { return []api.Mac{none, none, one, two, one, group}[r.Intn(6)] }

// event is one that may not be now and then.
func (r *random) event(s api.State) api.Event {
	e := api.Event{
		What:   []api.What{0, 0, 0, 0, 0, 1, 1, 2, 3, 4, 5, 5, 5, 6, 6, 7}[r.Intn(16)],
		Holder: api.Holder{Addr: r.addr(), Owner: []string{"a", "ann", "bob7", "12345678", "", "Ann", "123456789"}[min(r.Intn(12), 6)], Mac: r.mac()},
		Block:  api.Block{Base: r.addr() &^ 1, Bits: 29 + r.Intn(4)},
		Sight:  api.Sight{From: api.Source(r.Intn(4)), Mac: r.mac(), At: r.Intn(99)},
	}
	switch k := r.Intn(40); {
	case k == 0:
		e.What = api.What(r.Intn(600) - 300)
	case k == 1:
		e.Sight.From = api.Source(r.Intn(600) - 300)
	case k == 2:
		e.Block.Bits += []int{-256, 256, 40, -9}[r.Intn(4)]
	case k < 10 && len(s.Probes) > 0:
		e = saw(s.Probes[r.Intn(len(s.Probes))].Addr, api.Echo, none)
	case k < 16 && len(s.Cases) > 0:
		e = of([]api.What{api.Approve, api.Reject}[r.Intn(2)], s.Cases[len(s.Cases)-1].Addr)
	}
	return e
}

func (r *random) accident(d ...*disk.Disk) {
	set := []func(d *disk.Disk, n int){(*disk.Disk).Arm, (*disk.Disk).Fail}[r.Intn(2)]
	n := r.Intn(60) - 1
	for _, x := range d {
		set(x, n)
	}
}

func (r *random) restart(d ...*disk.Disk) {
	mask, torn, bytes := []uint64{0, all, r.Uint64(), r.Uint64()}[r.Intn(4)], r.Intn(20)-4, r.Intn(70)-3
	for _, x := range d {
		x.Restart(mask, torn, bytes)
	}
}

func (r *random) size() int { return []int{8, 9, 10, 12, 14, 20, 31, 60, 120}[r.Intn(9)] }

// pair is a daemon and the model, each on a disk of its own, to which the same happens.
type pair struct {
	c       api.Config
	d, twin *disk.Disk
	x       *daemon.Daemon
	m       *model
}

func (p *pair) open(t *testing.T) api.Errno {
	t.Helper()
	x, err := daemon.Open(p.c, p.d)
	m, want := modelOpen(p.c, p.twin)
	if err != want || (x == nil) != (m == nil) {
		t.Fatalf("Open is %v, %d, want %v, %d", x, err, m, want)
	}
	p.x, p.m = x, m
	return err
}

// opened opens both as often as it takes.
func (p *pair) opened(t *testing.T, r *random) {
	t.Helper()
	for p.open(t) != 0 {
		r.restart(p.d, p.twin)
	}
}

func (p *pair) check(t *testing.T) {
	t.Helper()
	checkFace(t, p.x, p.m.face())
	if p.d.Calls() != p.twin.Calls() || p.d.Wait() != p.twin.Wait() || p.d.Down() != p.twin.Down() {
		t.Fatalf("the disks were called %d and %d times, and have %d and %d writes wait", p.d.Calls(), p.twin.Calls(), p.d.Wait(), p.twin.Wait())
	}
	if !p.d.Down() && !slices.Equal(image(t, p.d), image(t, p.twin)) {
		t.Fatal("the disks differ")
	}
}

func (p *pair) do(t *testing.T, e api.Event) api.Errno {
	t.Helper()
	sent, err := p.x.Do(e)
	packets, want := p.m.do(e)
	if err != want || !slices.Equal(sent, packets) {
		t.Fatalf("Do of %+v is %v, %d, want %v, %d", e, sent, err, packets, want)
	}
	return err
}

// step has one thing happen, by chance.
func (p *pair) step(t *testing.T, r *random, errs map[api.Errno]int) {
	t.Helper()
	switch k := r.Intn(100); {
	case k < 85:
		errs[p.do(t, r.event(p.x.State()))]++
	case k < 88:
		err, want := p.x.Keep(), p.m.keep()
		if err != want {
			t.Fatalf("Keep is %d, want %d", err, want)
		}
	case k < 92:
		r.accident(p.d, p.twin)
	case k < 94 || p.x.Only() && k < 98:
		r.restart(p.d, p.twin)
		p.opened(t, r)
	}
	p.check(t)
}

func TestDaemonIsLikeTheModel(t *testing.T) {
	errs := map[api.Errno]int{}
	for seed := range int64(250) {
		r := newRandom(seed)
		size := r.size()
		p := &pair{c: r.config(), d: disk.Of(size), twin: disk.Of(size)}
		p.opened(t, r)
		for range 120 {
			p.step(t, r, errs)
		}
	}
	for _, err := range []api.Errno{0, api.ErrOnly, api.ErrArgument, api.ErrTaken, api.ErrUnknown, api.ErrOverlap, api.ErrState, api.ErrFull, api.ErrCrash, api.ErrDisk} {
		if errs[err] < 20 {
			t.Errorf("the error %d came up %d times only", err, errs[err])
		}
	}
}

// Logs of chance, with records of which some are none.
func TestOpenIsLikeTheModel(t *testing.T) {
	counts := map[api.Errno]int{}
	for seed := range int64(3000) {
		r := newRandom(seed)
		c := r.config()
		s := behind(c, api.State{}, story()[:r.Intn(len(story())+1)]...)
		first := [][]byte{nil, codec.State(s), codec.State(s)}[r.Intn(3)]
		var others [][]byte
		for range r.Intn(12) {
			e := r.event(s)
			s = behind(c, s, e)
			if b := codec.Event(e); accepts(e) || r.Intn(4) == 0 {
				others = append(others, b)
			}
		}
		if r.Intn(4) == 0 {
			records := append([][]byte{first}, others...)
			if b := records[r.Intn(len(records))]; len(b) > 0 {
				b[r.Intn(len(b))] ^= 1 << r.Intn(8)
			}
		}
		d := diskWith(t, 120, first, others...)
		p := &pair{c: c, d: d, twin: copyOf(t, d)}
		p.d = copyOf(t, d)
		err := p.open(t)
		counts[err]++
		if err == 0 {
			p.check(t)
			p.do(t, tick)
			p.check(t)
		}
	}
	if counts[0] < 500 || counts[api.ErrForm] < 300 || len(counts) != 2 {
		t.Errorf("the errors are %v", counts)
	}
}

// Wherever the disk stops or fails: the state is the one that the events make that were told to have happened, and of the one in flight all or nothing.
func TestRunsWithAccidents(t *testing.T) {
	counts := map[string]int{}
	for seed := range int64(300) {
		r := newRandom(seed)
		c := r.config()
		d := disk.Of(max(12, r.size()))
		x := open(t, c, d)
		var want api.State
		for range 150 {
			e := r.event(want)
			next, packets, _ := ops.Do(c, want, e)
			if r.Intn(8) == 0 {
				r.accident(d)
			}
			sent, err := x.Do(e)
			flight := false
			switch err {
			case 0:
				want = next
				counts["done"]++
				if !slices.Equal(sent, packets) {
					t.Fatalf("seed %d: %v was sent, want %v", seed, sent, packets)
				}
			case api.ErrCrash, api.ErrDisk:
				flight = true
			}
			if text(x.State()) != text(want) {
				t.Fatalf("seed %d: the state is\n%+v, want\n%+v", seed, x.State(), want)
			}
			if !flight && r.Intn(12) > 0 {
				continue
			}
			x = reopened(t, c, d, r)
			switch text(x.State()) {
			case text(want):
				counts["lost"]++
			case text(next):
				if !flight {
					t.Fatalf("seed %d: an event happened that was refused", seed)
				}
				want = next
				counts["kept"]++
			default:
				t.Fatalf("seed %d: the state is\n%+v, want\n%+v, or\n%+v", seed, x.State(), want, next)
			}
		}
	}
	if counts["done"] < 5000 || counts["lost"] < 300 || counts["kept"] < 100 {
		t.Errorf("so much came up: %v", counts)
	}
}

// reopened has a disk go on, and opens it; now and then it stops, or fails, meanwhile.
func reopened(t *testing.T, c api.Config, d *disk.Disk, r *random) *daemon.Daemon {
	t.Helper()
	for {
		r.restart(d)
		if r.Intn(3) == 0 {
			r.accident(d)
		}
		x, err := daemon.Open(c, d)
		if err == 0 {
			return x
		}
		if err != api.ErrCrash && err != api.ErrDisk || x != nil {
			t.Fatalf("Open is %v, %d", x, err)
		}
	}
}

// The same calls on the same disk, twice.
func TestTheSameTwice(t *testing.T) {
	for seed := range int64(60) {
		r := newRandom(seed)
		c, size := r.config(), r.size()
		var runs [2][]any
		for i := range runs {
			runs[i] = recorded(t, c, size, newRandom(seed+1000))
		}
		if !slices.Equal(runs[0], runs[1]) {
			t.Fatalf("with the seed %d the answers are\n%v and\n%v", seed, runs[0], runs[1])
		}
	}
}

// recorded is all that a run answers, and what is on its disk then.
func recorded(t *testing.T, c api.Config, size int, r *random) []any {
	t.Helper()
	d := disk.Of(size)
	x := open(t, c, d)
	var list []any
	for k := range 100 {
		e := r.event(x.State())
		sent, err := x.Do(e)
		list = append(list, err, faceOf(x))
		for _, p := range sent {
			list = append(list, p)
		}
		if r.Intn(10) == 0 {
			r.accident(d)
		}
		if k%25 == 24 {
			list = append(list, x.Keep())
			r.restart(d)
			x = open(t, c, d)
		}
	}
	d.Restart(0, -1, 0)
	list = append(list, d.Calls())
	for _, s := range image(t, d) {
		list = append(list, s)
	}
	return list
}
