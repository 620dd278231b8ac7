package daemon_test

import (
	"slices"
	"testing"

	"terrier/api"
	"terrier/codec"
	"terrier/daemon"
	"terrier/disk"
	"terrier/wal"
)

// P20.2

func TestTellingBehindEachEvent(t *testing.T) {
	x, d := started(t, conf(), 200)
	var s api.State
	for i, e := range story() {
		do(t, x, e)
		s = behind(conf(), s, e)
		checkFace(t, x, faceWith(conf(), s, 1, i+1))
		checkKept(t, conf(), d, x)
	}
}

func TestTellingMakesNoCall(t *testing.T) {
	x, d := started(t, conf(), 200, story()...)
	want, calls, before := faceOf(x), d.Calls(), image(t, d)
	d.Arm(0)
	d.Fail(0)
	for range 3 {
		checkFace(t, x, want)
	}
	if d.Calls() != calls || d.Wait() != 0 || d.Down() || !slices.Equal(image(t, d), before) {
		t.Error("the disk was called")
	}
}

func TestStatusIsOfTheConfigurationAndTheState(t *testing.T) {
	x, _ := started(t, conf(), 200)
	x.Do(hold(net+1, "ann", one))
	for _, step := range []struct {
		e    api.Event
		want api.Status
	}{
		{tick, api.Planned}, {saw(net+1, api.Arp, one), api.Active}, {saw(net+1, api.Arp, two), api.Conflict},
		{of(api.Drop, net+1), api.Conflict}, {saw(net+1, api.Lease, two), api.Rogue}, {hold(net+1, "bob", none), api.Active},
		{tick, api.Active}, {tick, api.Active}, {tick, api.Planned}, {tick, api.Planned}, {tick, api.Stale},
	} {
		do(t, x, step.e)
		if got := x.Status(net + 1); got != step.want {
			t.Errorf("behind %+v the status is %d, want %d", step.e, got, step.want)
		}
		if got := x.Status(net + 2); got != api.Free {
			t.Errorf("the status of an address of which nothing is known is %d", got)
		}
	}
	for old, want := range map[int]api.Status{5: api.Stale, 6: api.Planned} {
		c := conf()
		c.Old = old
		d := diskWith(t, 200, codec.State(x.State()))
		if got := open(t, c, d).Status(net + 1); got != want {
			t.Errorf("with Old %d the status is %d, want %d", old, got, want)
		}
	}
}

func TestKeep(t *testing.T) {
	for n := range len(story()) + 1 {
		x, d := started(t, conf(), 200, story()[:n]...)
		s := x.State()
		for k := range 4 {
			if err := x.Keep(); err != 0 {
				t.Fatalf("Keep is %d", err)
			}
			checkFace(t, x, faceWith(conf(), s, k+2, 0))
			checkLog(t, d, codec.State(s))
			checkKept(t, conf(), d, x)
		}
		do(t, x, story()[n:]...)
		checkFace(t, x, faceWith(conf(), behind(conf(), api.State{}, story()...), 5, len(story())-n))
		checkLog(t, d, append([][]byte{codec.State(s)}, encoded(story()[n:]...)...)...)
		checkKept(t, conf(), d, x)
	}
}

// Keep does what the log's Begin does, and nothing else.
func TestKeepOnTheDisk(t *testing.T) {
	x, d := started(t, conf(), 121, story()...)
	twin := copyOf(t, d)
	l, err := wal.Open(twin)
	if err != 0 {
		t.Fatal(err)
	}
	calls, twinCalls := d.Calls(), twin.Calls()
	if err, want := x.Keep(), l.Begin(codec.State(x.State())); err != 0 || want != 0 {
		t.Fatalf("Keep is %d, and Begin %d", err, want)
	}
	if !slices.Equal(image(t, d), image(t, twin)) || d.Calls()-calls != twin.Calls()-twinCalls || d.Wait() != 0 {
		t.Error("the disks differ")
	}
}

func TestKeepOfTheLargestState(t *testing.T) {
	d := diskWith(t, 512, codec.State(largest()))
	x := open(t, conf(), d)
	if err := x.Keep(); err != 0 {
		t.Fatalf("Keep is %d", err)
	}
	checkFace(t, x, faceWith(conf(), largest(), 3, 0))
	checkKept(t, conf(), d, x)
}

// crowded is a daemon whose state is too great for a region: it has more than four sectors.
func crowded(t *testing.T) (api.Config, *daemon.Daemon, *disk.Disk) {
	t.Helper()
	c := conf()
	c.Rate = 16
	x, d := started(t, c, 10, block(api.Watch, net, 28), tick)
	if n := len(codec.State(x.State())); x.Turn() != 2 || n <= 3*64 {
		t.Fatalf("the turn is %d, and the state has %d bytes", x.Turn(), n)
	}
	return c, x, d
}

func TestKeepOfAStateThatIsTooGreat(t *testing.T) {
	c, x, d := crowded(t)
	want, calls := faceOf(x), d.Calls()
	for range 3 {
		if err := x.Keep(); err != api.ErrFull {
			t.Fatalf("Keep is %d", err)
		}
		checkFace(t, x, want)
		checkKept(t, c, d, x)
	}
	if d.Calls() != calls || want.only {
		t.Error("the disk was called")
	}
}

// fits is how long a state may be of which Keep has a place in a region of so many sectors.
func fits(region int) int { return 64 * (region - 2) }

// Up to the longest state that has a place: a greater one comes about by an event only.
func TestKeepUpToTheRoom(t *testing.T) {
	var edges [2]int
	for _, size := range []int{12, 13, 14, 20} {
		for n := range 240 {
			s := api.State{Now: 5}
			for i := range n / 8 {
				s.Holders = append(s.Holders, api.Holder{Addr: net + api.Addr(i), Owner: "12345678"})
			}
			s.Holders = append(s.Holders, api.Holder{Addr: net + 100, Owner: "12345678"[:1+n%8]})
			b := codec.State(s)
			if 1+wal.Sectors(len(b)) > size/2 {
				continue // no disk of this size may have it
			}
			d := diskWith(t, size, b)
			x := open(t, conf(), d)
			if err := x.Keep(); err != 0 || len(b) > fits(size/2) {
				t.Fatalf("Keep of %d bytes is %d", len(b), err)
			}
			checkFace(t, x, faceWith(conf(), s, 3, 0))
			if len(b) == fits(size/2) {
				edges[0]++
			}
			if len(b) == fits(size/2)-1 {
				edges[1]++
			}
		}
	}
	if edges[0] == 0 || edges[1] == 0 {
		t.Errorf("the edges came up %v times", edges)
	}
}

func TestKeepOfADaemonThatIsReadOnly(t *testing.T) {
	for _, n := range []int{0, 3, len(story())} {
		x, d := broken(t, conf(), 200, story()[:n]...)
		want, calls := faceWith(conf(), behind(conf(), api.State{}, story()[:n]...), 1, n), d.Calls()
		want.only = true
		checkFace(t, x, want)
		if err := x.Keep(); err != api.ErrOnly || d.Calls() != calls {
			t.Errorf("Keep is %d", err)
		}
		checkFace(t, x, want)
		want.only = false
		checkFace(t, open(t, conf(), d), want)
	}
}

// scribble writes over all of a state's lists, and behind their ends.
func scribble(s api.State) {
	for _, k := range s.Known {
		fill(k.Seen, api.Sight{From: 99, At: 99})
	}
	fill(s.Holders, api.Holder{Addr: 99, Owner: "other"})
	fill(s.Sweeps, api.Sweep{Due: 99})
	fill(s.Known, api.Known{Addr: 99})
	fill(s.Probes, api.Probe{Addr: 99})
	fill(s.Cases, api.Case{Addr: 99})
}

func fill[T any](list []T, x T) {
	for i := range list[:cap(list)] {
		list[:cap(list)][i] = x
	}
}

func TestStatesMayBeChanged(t *testing.T) {
	check := func(x *daemon.Daemon, d *disk.Disk) {
		t.Helper()
		want := faceOf(x)
		first, second := x.State(), x.State()
		scribble(first)
		if text(second) != want.state {
			t.Fatalf("two answers of State share memory:\n%+v", second)
		}
		checkFace(t, x, want)
		scribble(second)
		checkKept(t, conf(), d, x)
	}
	x, d := started(t, conf(), 200)
	for _, e := range story() {
		do(t, x, e)
		check(x, d)
	}
	check(open(t, conf(), d), d)
	if err := x.Keep(); err != 0 {
		t.Fatal(err)
	}
	check(x, d)
	check(open(t, conf(), d), d)
	checkFace(t, x, faceWith(conf(), behind(conf(), api.State{}, story()...), 2, 0))
}

// A state that was given stays as it was, whatever happens later.
func TestStatesStayAsTheyWere(t *testing.T) {
	x, d := started(t, conf(), 40)
	var states []api.State
	var texts []string
	for range 6 {
		for _, e := range story() {
			states, texts = append(states, x.State()), append(texts, text(x.State()))
			x.Do(e)
		}
		x.Keep()
		x = open(t, conf(), d)
	}
	for i, s := range states {
		if text(s) != texts[i] {
			t.Errorf("state %d was\n%s and is\n%+v", i, texts[i], s)
		}
	}
}
