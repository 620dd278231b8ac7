package daemon_test

import (
	"bytes"
	"fmt"
	"math"
	"slices"
	"testing"

	"terrier/api"
	"terrier/codec"
	"terrier/config"
	"terrier/daemon"
	"terrier/disk"
	"terrier/ops"
	"terrier/wal"
	"terrier/wire"
)

const (
	net      = api.Addr(0x0a010000)
	lastTick = 1 << 40
	all      = math.MaxUint64
)

var (
	none  = api.Mac{}
	one   = api.Mac{2, 0, 0, 0, 0, 1}
	two   = api.Mac{2, 0, 0, 0, 0, 2}
	group = api.Mac{3, 0, 0, 0, 0, 1}
	tick  = api.Event{}
)

// conf has small numbers that are told apart.
func conf() api.Config {
	return api.Config{Fresh: 3, Old: 5, Need: 1, Every: 10, Rate: 2, Wait: 2, Again: 1, Open: 6, Quiet: 8}
}

// The events, by what they need.
func hold(a api.Addr, owner string, m api.Mac) api.Event {
	return api.Event{What: api.Hold, Holder: api.Holder{Addr: a, Owner: owner, Mac: m}}
}

func of(what api.What, a api.Addr) api.Event {
	return api.Event{What: what, Holder: api.Holder{Addr: a}}
}

func block(what api.What, base api.Addr, bits int) api.Event {
	return api.Event{What: what, Block: api.Block{Base: base, Bits: bits}}
}

func saw(a api.Addr, from api.Source, m api.Mac) api.Event {
	return api.Event{What: api.Saw, Holder: api.Holder{Addr: a}, Sight: api.Sight{From: from, Mac: m}}
}

// story is events of each kind that have no error one behind the other: addresses are held, asked and seen, and one is given back.
func story() []api.Event {
	return []api.Event{
		hold(net+1, "ann", one), hold(net+2, "bob", none), hold(net+7, "12345678", two),
		block(api.Watch, net, 30), block(api.Watch, net+8, 32),
		saw(net+1, api.Arp, one), saw(net+2, api.Lease, none),
		tick, saw(net, api.Echo, two), tick, saw(net+9, api.Neighbour, group),
		of(api.Drop, net+7), tick, tick, tick, tick,
		of(api.Approve, net+2), of(api.Reject, net+1), tick,
		block(api.Ignore, net+8, 32), saw(net+2, api.Arp, two), hold(net+7, "cat", none), block(api.Watch, net+10, 31), tick,
	}
}

// behind is a state behind events: those that have an error leave it as it is.
func behind(c api.Config, s api.State, es ...api.Event) api.State {
	for _, e := range es {
		s, _, _ = ops.Do(c, s, e)
	}
	return s
}

// text tells all of a state; lists without elements are alike.
func text(s api.State) string { return fmt.Sprintf("%+v", s) }

// face is all that a daemon tells.
type face struct {
	state         string
	only          bool
	turn, records int
	statuses      [12]api.Status
}

func faceOf(x *daemon.Daemon) face {
	f := face{state: text(x.State()), only: x.Only(), turn: x.Turn(), records: x.Records()}
	for i := range f.statuses {
		f.statuses[i] = x.Status(net + api.Addr(i))
	}
	return f
}

// faceWith is what a daemon that is not read only is to tell.
func faceWith(c api.Config, s api.State, turn, records int) face {
	f := face{state: text(s), turn: turn, records: records}
	for i := range f.statuses {
		f.statuses[i] = ops.Status(c, s, net+api.Addr(i))
	}
	return f
}

func checkFace(t *testing.T, x *daemon.Daemon, want face) {
	t.Helper()
	if got := faceOf(x); got != want {
		t.Fatalf("the daemon tells\n%+v, want\n%+v", got, want)
	}
}

func open(t *testing.T, c api.Config, d *disk.Disk) *daemon.Daemon {
	t.Helper()
	x, err := daemon.Open(c, d)
	if x == nil || err != 0 {
		t.Fatalf("Open = %v, %d", x, err)
	}
	return x
}

func checkNoDaemon(t *testing.T, c api.Config, d *disk.Disk, want api.Errno) {
	t.Helper()
	if x, err := daemon.Open(c, d); x != nil || err != want {
		t.Fatalf("Open = %v, %d; want no daemon, %d", x, err, want)
	}
}

// started is a daemon on a new disk behind some events, none of which has an error.
func started(t *testing.T, c api.Config, size int, es ...api.Event) (*daemon.Daemon, *disk.Disk) {
	t.Helper()
	d := disk.Of(size)
	x := open(t, c, d)
	do(t, x, es...)
	return x, d
}

// do has events happen, none of which has an error.
func do(t *testing.T, x *daemon.Daemon, es ...api.Event) {
	t.Helper()
	for i, e := range es {
		if _, err := x.Do(e); err != 0 {
			t.Fatalf("Do of event %d, %+v, is %d", i, e, err)
		}
	}
}

// checkDo has an event happen that does what ops.Do does.
func checkDo(t *testing.T, c api.Config, x *daemon.Daemon, e api.Event) {
	t.Helper()
	next, packets, err := ops.Do(c, x.State(), e)
	sent, got := x.Do(e)
	if err != 0 || got != 0 || !slices.Equal(sent, packets) || text(x.State()) != text(next) {
		t.Fatalf("Do of %+v is %v, %d, and then\n%+v, want %v, %d and\n%+v", e, sent, got, x.State(), packets, err, next)
	}
}

// checkRefused has an event have an error, behind which daemon and disk are as they were.
func checkRefused(t *testing.T, x *daemon.Daemon, d *disk.Disk, e api.Event, want api.Errno) {
	t.Helper()
	before, calls, wait := faceOf(x), d.Calls(), d.Wait()
	if sent, err := x.Do(e); err != want || len(sent) > 0 {
		t.Fatalf("Do of %+v is %v, %d; want %d", e, sent, err, want)
	}
	checkFace(t, x, before)
	if d.Calls() != calls || d.Wait() != wait {
		t.Fatalf("Do of %+v, which is %d, called the disk", e, want)
	}
}

// checkKept tells that a daemon that is opened on a copy of the disk is as the one that is there.
func checkKept(t *testing.T, c api.Config, d *disk.Disk, x *daemon.Daemon) {
	t.Helper()
	checkFace(t, open(t, c, copyOf(t, d)), faceOf(x))
}

// logOf is the records of a disk.
func logOf(t *testing.T, d *disk.Disk) [][]byte {
	t.Helper()
	l, err := wal.Open(copyOf(t, d))
	if err != 0 {
		t.Fatalf("wal.Open is %d", err)
	}
	return l.Records()
}

func checkLog(t *testing.T, d *disk.Disk, want ...[]byte) {
	t.Helper()
	if got := logOf(t, d); !slices.EqualFunc(got, want, bytes.Equal) {
		t.Fatalf("the log is\n%x, want\n%x", got, want)
	}
}

// image is all sectors, as they are read.
func image(t *testing.T, d *disk.Disk) []disk.Sector {
	t.Helper()
	list := make([]disk.Sector, d.Size())
	for at := range list {
		s, err := d.Read(at)
		if err != 0 {
			t.Fatalf("Read(%d) is %d", at, err)
		}
		list[at] = s
	}
	return list
}

// copyOf is another disk that reads alike; nothing waits on it.
func copyOf(t *testing.T, d *disk.Disk) *disk.Disk {
	t.Helper()
	other := disk.Of(d.Size())
	for at, s := range image(t, d) {
		if err := other.Write(at, s); err != 0 {
			t.Fatalf("Write(%d) is %d", at, err)
		}
	}
	if err := other.Flush(); err != 0 {
		t.Fatalf("Flush is %d", err)
	}
	return other
}

// diskWith is a disk whose log has these records.
func diskWith(t *testing.T, size int, first []byte, others ...[]byte) *disk.Disk {
	t.Helper()
	d := disk.Of(size)
	l, err := wal.Open(d)
	if err == 0 {
		err = l.Begin(first)
	}
	for _, b := range others {
		if err == 0 {
			err = l.Append(b)
		}
	}
	if err != 0 {
		t.Fatalf("the disk of the test can't be made: %d", err)
	}
	return d
}

// encoded is the bytes of events.
func encoded(es ...api.Event) [][]byte {
	var list [][]byte
	for _, e := range es {
		list = append(list, codec.Event(e))
	}
	return list
}

// down has a disk stop.
func down(t *testing.T, d *disk.Disk) {
	t.Helper()
	d.Arm(0)
	if err := d.Flush(); err != api.ErrCrash {
		t.Fatalf("Flush is %d", err)
	}
}

// broken is a daemon that is read only, on a disk that is not down.
func broken(t *testing.T, c api.Config, size int, es ...api.Event) (*daemon.Daemon, *disk.Disk) {
	t.Helper()
	x, d := started(t, c, size, es...)
	d.Fail(0)
	if _, err := x.Do(tick); err != api.ErrDisk || !x.Only() {
		t.Fatalf("Do is %d", err)
	}
	return x, d
}

func TestTheStoryIsWhole(t *testing.T) {
	if config.Right(conf()) != -1 {
		t.Error("the configuration is not valid")
	}
	var s api.State
	kinds := map[api.What]int{}
	stages := map[api.Stage]int{}
	var packets []wire.Packet
	for _, e := range story() {
		next, sent, err := ops.Do(conf(), s, e)
		if err != 0 || text(next) == text(s) || !codec.Right(next) {
			t.Fatalf("%+v is %d, or not valid, or changes nothing", e, err)
		}
		s = next
		packets = append(packets, sent...)
		kinds[e.What]++
		for _, x := range s.Cases {
			stages[x.Stage]++
		}
	}
	if len(kinds) != 8 || len(packets) < 5 || stages[api.Done] == 0 || stages[api.Rejected] == 0 || len(s.Holders) == 0 || len(s.Sweeps) == 0 || len(s.Known) == 0 || len(s.Probes) == 0 {
		t.Errorf("the kinds are %v, the stages %v, the packets %v, the state\n%+v", kinds, stages, packets, s)
	}
}

// A Daemon that was not opened has no log: nothing is promised of it, but it doesn't panic.
func TestDaemonThatWasNotOpened(t *testing.T) {
	x := &daemon.Daemon{}
	if text(x.State()) != text(api.State{}) || x.Only() || x.Turn() != 0 || x.Status(net) != api.Free {
		t.Errorf("it tells %+v", faceOf(x))
	}
	for _, e := range append(story(), api.Event{What: -1}) {
		if sent, err := x.Do(e); err == 0 || len(sent) > 0 {
			t.Errorf("Do of %+v is %v, %d", e, sent, err)
		}
	}
	if err := x.Keep(); err != api.ErrFull {
		t.Errorf("Keep is %d", err)
	}
}
