package daemon_test

import (
	"fmt"
	"slices"
	"testing"

	"terrier/api"
	"terrier/codec"
	"terrier/daemon"
	"terrier/disk"
	"terrier/wal"
)

// P20.1

func TestOpenOfANewDisk(t *testing.T) {
	for _, size := range []int{8, 9, 10, 11, 64, 200, 511, 512, 513, 1 << 20} {
		d, twin := disk.Of(size), disk.Of(size)
		checkFace(t, open(t, conf(), d), faceWith(conf(), api.State{}, 1, 0))
		checkLog(t, d, nil)
		if _, err := wal.Open(twin); err != 0 {
			t.Fatal(err)
		}
		if !slices.Equal(image(t, d), image(t, twin)) || d.Calls() != twin.Calls() || d.Wait() != 0 {
			t.Errorf("Open did more to a disk of %d sectors than wal.Open does", size)
		}
	}
}

func TestOpenOfADiskThatIsTooSmall(t *testing.T) {
	for _, size := range []int{-5, 0, 1, 2, 4, 6, 7} {
		d := disk.Of(size)
		checkNoDaemon(t, conf(), d, api.ErrArgument)
		down(t, d)
		checkNoDaemon(t, conf(), d, api.ErrArgument)
	}
}

func TestOpenOfADiskThatIsDown(t *testing.T) {
	wrong := diskWith(t, 40, []byte("none"))
	_, kept := started(t, conf(), 200, story()...)
	for _, d := range []*disk.Disk{disk.Of(8), disk.Of(200), kept, wrong} {
		down(t, d)
		checkNoDaemon(t, conf(), d, api.ErrCrash)
		d.Restart(0, -1, 0)
	}
	checkFace(t, open(t, conf(), kept), faceWith(conf(), behind(conf(), api.State{}, story()...), 1, len(story())))
	checkNoDaemon(t, conf(), wrong, api.ErrForm)
}

func TestOpenOfTheFirstRecord(t *testing.T) {
	whole := behind(conf(), api.State{}, story()...)
	ahead := api.State{Now: 3, Cases: []api.Case{{Addr: net, Raised: 9}}}
	for _, s := range []api.State{{}, {Now: lastTick, Seq: 65535}, whole, ahead, largest()} {
		d := diskWith(t, 512, codec.State(s))
		checkFace(t, open(t, conf(), d), faceWith(conf(), s, 2, 0))
		d = diskWith(t, 512, codec.State(s), encoded(tick, tick, hold(net+5, "dan", none))...)
		checkFace(t, open(t, conf(), d), faceWith(conf(), behind(conf(), s, tick, tick, hold(net+5, "dan", none)), 2, 3))
	}
	d := diskWith(t, 512, nil)
	checkFace(t, open(t, conf(), d), faceWith(conf(), api.State{}, 2, 0))
	d = diskWith(t, 512, nil, encoded(story()...)...)
	checkFace(t, open(t, conf(), d), faceWith(conf(), whole, 2, len(story())))
}

// largest has lists as long as they may be.
func largest() api.State {
	s := api.State{Now: 3000, Seq: 7}
	for i := range api.Addr(96) {
		k := api.Known{Addr: net + i}
		for j := range 8 {
			k.Seen = append(k.Seen, api.Sight{From: api.Source(j % 4), Mac: two, At: int(i) + j})
		}
		s.Known = append(s.Known, k)
	}
	for i := range api.Addr(48) {
		s.Holders = append(s.Holders, api.Holder{Addr: net + 2*i, Owner: "longname", Mac: one})
	}
	for i := range api.Addr(16) {
		s.Sweeps = append(s.Sweeps, api.Sweep{Block: api.Block{Base: net + 256*i, Bits: 24}, Due: 3000, Next: 9})
		s.Probes = append(s.Probes, api.Probe{Addr: net + i, ID: int(i), Seq: int(i), Sent: 2990, Tries: 8})
		s.Cases = append(s.Cases, api.Case{Addr: net + 2*i, Raised: 2980})
	}
	return s
}

// wrongStates are bytes of no valid state; those of a state that is not valid, too.
func wrongStates() [][]byte {
	right := codec.State(behind(conf(), api.State{}, story()...))
	list := [][]byte{{0}, {1}, []byte("x"), right[:len(right)-1], right[1:], append(slices.Clone(right), 0), make([]byte, 19), make([]byte, 21), make([]byte, 64)}
	list = append(list, encoded(story()...)...)
	long, reversed, twice := largest(), largest(), largest()
	long.Holders = append(long.Holders, api.Holder{Addr: net + 200, Owner: "zoe"})
	slices.Reverse(reversed.Known)
	twice.Cases[3].Addr = twice.Cases[2].Addr
	for _, s := range []api.State{
		{Now: lastTick + 1}, {Now: -1}, {Holders: []api.Holder{{Addr: net, Owner: "Ann"}}}, {Holders: []api.Holder{{Addr: net}}},
		{Known: []api.Known{{Addr: net}}}, {Sweeps: []api.Sweep{{Block: api.Block{Base: net + 1, Bits: 31}}}},
		{Probes: []api.Probe{{Addr: net, Tries: 9}}}, {Cases: []api.Case{{Addr: net, Stage: 6}}}, long, reversed, twice,
	} {
		list = append(list, codec.State(s))
	}
	return list
}

func TestOpenOfAFirstRecordThatIsNone(t *testing.T) {
	for _, b := range wrongStates() {
		checkNoDaemon(t, conf(), diskWith(t, 512, b), api.ErrForm)
		checkNoDaemon(t, conf(), diskWith(t, 512, b, encoded(tick, tick)...), api.ErrForm)
		checkNoDaemon(t, conf(), diskWith(t, 512, b, []byte("none")), api.ErrForm)
	}
}

// wrongEvents are bytes of no event; those of an event that may not be, too.
func wrongEvents() [][]byte {
	list := [][]byte{nil, {8}, {255}, {0, 0}, {1}, make([]byte, 20), codec.State(api.State{}), codec.State(largest())[:300]}
	for _, e := range story() {
		b := codec.Event(e)
		list = append(list, b[:len(b)-1], append(slices.Clone(b), 0))
	}
	for _, e := range notAccepted() {
		list = append(list, codec.Event(e))
	}
	return list
}

// notAccepted are events whose bytes are no event's.
func notAccepted() []api.Event {
	return []api.Event{
		hold(net+5, "", none), hold(net+5, "Ann", none), hold(net+5, "a b", one), hold(net+5, "ann-1", one), hold(net+5, "\xff", one),
		hold(net+5, "123456789", none), hold(net+5, string(make([]byte, 255)), none), hold(net+5, string(slices.Repeat([]byte("a"), 256)), none),
		hold(net+5, string(slices.Repeat([]byte("a"), 259)), none), hold(net+5, "ann", group), hold(net+5, "ann", api.Mac{255, 255, 255, 255, 255, 255}), hold(net+5, "ann", api.Mac{1}),
		saw(net+5, api.Sources, none), saw(net+5, 5, one), saw(net+5, 255, one), saw(net+5, -1, one),
		{What: api.Whats}, {What: -1}, {What: 255}, {What: 257}, {What: 256 + api.Saw},
	}
}

func TestOpenOfAnotherRecordThatIsNone(t *testing.T) {
	for i, b := range wrongEvents() {
		for at := range 6 {
			records := slices.Insert(encoded(story()[:5]...), at, b)
			for _, first := range [][]byte{nil, codec.State(api.State{}), codec.State(api.State{Now: 9})} {
				checkNoDaemon(t, conf(), diskWith(t, 200, first, records...), api.ErrForm)
			}
		}
		if t.Failed() {
			t.Fatalf("number %d", i)
		}
	}
}

// Only the records of the region that counts are looked at.
func TestOpenOfAnOlderRegionThatIsNone(t *testing.T) {
	d := diskWith(t, 80, []byte("none"), []byte("none either"))
	l, _ := wal.Open(d)
	if err := l.Begin(codec.State(api.State{Now: 5})); err != 0 {
		t.Fatal(err)
	}
	checkFace(t, open(t, conf(), d), faceWith(conf(), api.State{Now: 5}, 3, 0))
}

// The events have no error where they are logged by a daemon. In a log that was made in another way they may have one: they leave the state as it is.
func TestOpenOfEventsThatHaveAnError(t *testing.T) {
	es := slices.Concat(story(), []api.Event{
		hold(net+1, "dan", none), of(api.Drop, net+99), block(api.Watch, net, 24), block(api.Watch, net, 16), block(api.Watch, net+1, 24), block(api.Watch, 0, 99),
		block(api.Ignore, net, 31), saw(net+77, api.Echo, none), of(api.Approve, net+99), of(api.Reject, net+1), tick,
	}, story(), story())
	var s api.State
	refused := 0
	for i, e := range es {
		before := text(s)
		s = behind(conf(), s, e)
		if text(s) == before {
			refused++
		}
		d := diskWith(t, 400, nil, encoded(es[:i+1]...)...)
		x := open(t, conf(), d)
		checkFace(t, x, faceWith(conf(), s, 2, i+1))
		checkLog(t, d, append([][]byte{nil}, encoded(es[:i+1]...)...)...)
		checkDo(t, conf(), x, tick)
	}
	if refused < 15 {
		t.Errorf("only %d events changed nothing", refused)
	}
}

// What the events do depends on the configuration with which the log is opened.
func TestOpenWithAnotherConfiguration(t *testing.T) {
	_, d := started(t, conf(), 200, story()...)
	seen := map[string]int{}
	for _, change := range []func(c *api.Config){
		func(c *api.Config) {}, func(c *api.Config) { c.Rate = 5 }, func(c *api.Config) { c.Old = 20 },
		func(c *api.Config) { c.Open = 1 }, func(c *api.Config) { c.Wait = 9 }, func(c *api.Config) { c.Fresh = 1 },
	} {
		c := conf()
		change(&c)
		x := open(t, c, copyOf(t, d))
		checkFace(t, x, faceWith(c, behind(c, api.State{}, story()...), 1, len(story())))
		checkDo(t, c, x, tick)
		seen[fmt.Sprint(faceOf(x))]++
	}
	if len(seen) < 5 {
		t.Errorf("there are only %d different answers", len(seen))
	}
}

func TestOpenAgain(t *testing.T) {
	_, d := started(t, conf(), 200, story()...)
	want := faceWith(conf(), behind(conf(), api.State{}, story()...), 1, len(story()))
	before := image(t, d)
	for range 3 {
		checkFace(t, open(t, conf(), d), want)
		if !slices.Equal(image(t, d), before) {
			t.Error("Open changed the disk")
		}
	}
	checkFace(t, open(t, conf(), copyOf(t, d)), want)
}

// opens are disks on which Open writes zeros behind the records, or begins a log, or only flushes; two of them have no daemon.
func opens(t *testing.T) map[string]*disk.Disk {
	t.Helper()
	_, kept := started(t, conf(), 120, story()...)
	_, full := started(t, conf(), 10, tick, tick, tick)
	norecord := disk.Of(20)
	if err := norecord.Write(3, disk.Sector{9}); err != 0 {
		t.Fatal(err)
	}
	return map[string]*disk.Disk{
		"a new one": disk.Of(12), "no log": norecord, "kept": kept, "full": full,
		"no state": diskWith(t, 20, []byte("none")), "no event": diskWith(t, 20, nil, []byte("none")),
	}
}

// The error of the disk is told, whatever the records are, and behind a restart the disk is opened as if nothing had been.
func TestOpenAtEachErrorOfTheDisk(t *testing.T) {
	for name, start := range opens(t) {
		plain := copyOf(t, start)
		before := plain.Calls()
		x, want := daemon.Open(conf(), plain)
		for _, a := range accidents() {
			for n := range plain.Calls() - before {
				for _, r := range []restart{{0, -1, 0}, {all, -1, 0}, {0x5555, -1, 0}, {0xaaaa, 1, 11}, {0, 0, 12}, {all, 2, 63}} {
					d := copyOf(t, start)
					a.set(d, n)
					checkNoDaemon(t, conf(), d, a.err)
					d.Restart(r.mask, r.torn, r.bytes)
					if want != 0 {
						checkNoDaemon(t, conf(), d, want)
						continue
					}
					again := open(t, conf(), d)
					if text(again.State()) != text(x.State()) || again.Records() != x.Records() || again.Only() {
						t.Fatalf("%s, %s at call %d, %v: %+v", name, a.name, n, r, faceOf(again))
					}
				}
			}
		}
	}
}
