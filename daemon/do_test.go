package daemon_test

import (
	"math"
	"slices"
	"strings"
	"testing"

	"terrier/api"
	"terrier/codec"
	"terrier/disk"
	"terrier/ops"
	"terrier/wal"
	"terrier/wire"
)

// P20.3

// Each event does what ops.Do does, and its bytes are the last record.
func TestDoOfEachKind(t *testing.T) {
	x, d := started(t, conf(), 200)
	records := [][]byte{nil}
	for i, e := range story() {
		checkDo(t, conf(), x, e)
		records = append(records, codec.Event(e))
		checkLog(t, d, records...)
		if x.Records() != i+1 || x.Turn() != 1 || x.Only() {
			t.Fatalf("behind event %d the daemon tells %+v", i, faceOf(x))
		}
		checkKept(t, conf(), d, x)
	}
}

// Do does to the disk what the log's Append does, and nothing else.
func TestDoOnTheDisk(t *testing.T) {
	x, d := started(t, conf(), 121)
	twin := disk.Of(121)
	l, err := wal.Open(twin)
	if err != 0 {
		t.Fatal(err)
	}
	for _, e := range story() {
		do(t, x, e)
		if err := l.Append(codec.Event(e)); err != 0 {
			t.Fatal(err)
		}
		if !slices.Equal(image(t, d), image(t, twin)) || d.Calls() != twin.Calls() || d.Wait() != 0 {
			t.Fatalf("the disks differ behind %+v", e)
		}
	}
}

// Fields that an event of this kind does not need make no difference.
func TestDoOfEventsWithOtherFields(t *testing.T) {
	x, d := started(t, conf(), 200)
	plain, _ := started(t, conf(), 200)
	for i, e := range story() {
		rich := e
		if e.What != api.Hold {
			rich.Holder.Owner, rich.Holder.Mac = "Not One", group
		}
		if e.What != api.Saw {
			rich.Sight = api.Sight{From: 77, Mac: group}
		}
		rich.Sight.At = math.MaxInt - i
		if e.What != api.Watch && e.What != api.Ignore {
			rich.Block = api.Block{Base: 1, Bits: 99}
		}
		want, _ := plain.Do(e)
		got, err := x.Do(rich)
		if err != 0 || !slices.Equal(got, want) {
			t.Fatalf("Do of %+v is %v, %d", rich, got, err)
		}
		checkFace(t, x, faceOf(plain))
		checkKept(t, conf(), d, x)
	}
}

func TestDoOfNoKind(t *testing.T) {
	for _, n := range []int{0, len(story())} {
		x, d := started(t, conf(), 200, story()[:n]...)
		for _, what := range []api.What{math.MinInt, -1 << 32, -257, -256, -255, -8, -1, 8, 9, 10, 100, 255, 256, 257, 258, 263, 264, 512, 65536, 1 << 32, math.MaxInt} {
			e := hold(net+5, "dan", none)
			e.What = what
			checkRefused(t, x, d, e, api.ErrArgument)
			checkRefused(t, x, d, api.Event{What: what}, api.ErrArgument)
		}
		checkKept(t, conf(), d, x)
	}
}

func TestDoOfEventsThatAreNotAccepted(t *testing.T) {
	for _, n := range []int{0, len(story())} {
		x, d := started(t, conf(), 200, story()[:n]...)
		for _, e := range notAccepted() {
			checkRefused(t, x, d, e, api.ErrArgument)
		}
		checkRefused(t, x, d, hold(net+5, strings.Repeat("a", 1<<20), none), api.ErrArgument)
		checkKept(t, conf(), d, x)
	}
}

// refused are events that have an error behind the story; errors are theirs.
func refused() []api.Event {
	es, _ := refusedAndErrors()
	return es
}

func refusedAndErrors() ([]api.Event, []api.Errno) {
	var es []api.Event
	var errs []api.Errno
	add := func(err api.Errno, list ...api.Event) {
		for _, e := range list {
			es, errs = append(es, e), append(errs, err)
		}
	}
	add(api.ErrTaken, hold(net+1, "dan", none), hold(net+7, "cat", none))
	add(api.ErrUnknown, of(api.Drop, net+2), of(api.Drop, 0), of(api.Approve, net+1), of(api.Reject, net+99))
	add(api.ErrUnknown, block(api.Ignore, net+8, 32), block(api.Ignore, net, 31), block(api.Ignore, net, 30+256), saw(net+77, api.Echo, none))
	add(api.ErrArgument, block(api.Watch, net+1, 31), block(api.Watch, net+64, -1), block(api.Watch, net+64, 33), block(api.Watch, net+64, 32+256), block(api.Watch, 0, -256))
	add(api.ErrArgument, saw(net+1, 256, one), saw(net+1, 257, one), saw(net+1, -255, one))
	add(api.ErrRange, block(api.Watch, net+1024, 23), block(api.Watch, 0, 0))
	add(api.ErrOverlap, block(api.Watch, net, 30), block(api.Watch, net+2, 32), block(api.Watch, net, 24))
	return es, errs
}

// Nothing is logged of an event that has an error: neither the state nor the disk is changed.
func TestDoOfEventsThatHaveAnError(t *testing.T) {
	x, d := started(t, conf(), 200, story()...)
	es, errs := refusedAndErrors()
	for i, e := range es {
		if _, _, err := ops.Do(conf(), x.State(), e); err != errs[i] {
			t.Fatalf("ops.Do of %+v is %d, want %d", e, err, errs[i])
		}
		checkRefused(t, x, d, e, errs[i])
		checkKept(t, conf(), d, x)
		if i%5 == 0 {
			do(t, x, saw(net+9, api.Lease, none))
		}
	}
}

// Lists that are full: ErrFull is the event's then, not the log's, and the log is not begun anew.
func TestDoOfEventsForWhichAListIsFull(t *testing.T) {
	d := diskWith(t, 512, codec.State(largest()))
	x := open(t, conf(), d)
	for _, e := range []api.Event{hold(net+1, "dan", none), block(api.Watch, 0, 32), saw(net+200, api.Arp, none)} {
		checkRefused(t, x, d, e, api.ErrFull)
	}
	checkFace(t, x, faceWith(conf(), largest(), 2, 0))
	checkRefused(t, x, d, hold(net, "dan", none), api.ErrTaken)
	checkRefused(t, x, d, of(api.Drop, net+1), api.ErrUnknown)
	checkDo(t, conf(), x, of(api.Approve, net))
	checkRefused(t, x, d, of(api.Approve, net), api.ErrState)
	checkRefused(t, x, d, of(api.Reject, net), api.ErrState)
	checkDo(t, conf(), x, of(api.Drop, net))
	checkDo(t, conf(), x, hold(net+1, "dan", none))
	checkKept(t, conf(), d, x)
}

// An address that was seen at a tick that is ahead can't be seen now.
func TestDoOfASightingThatIsTooLate(t *testing.T) {
	s := api.State{Now: 4, Known: []api.Known{{Addr: net, Seen: []api.Sight{{At: 9}}}}, Probes: []api.Probe{{Addr: net, Sent: 4}}}
	d := diskWith(t, 40, codec.State(s))
	x := open(t, conf(), d)
	s = x.State()
	checkRefused(t, x, d, saw(net, api.Arp, none), api.ErrRange)
	checkRefused(t, x, d, saw(net, api.Echo, none), api.ErrRange) // the question waits still
	checkFace(t, x, faceWith(conf(), s, 2, 0))
}

// fullLog is a log in which there is no room for an event, so that it would have to be begun anew.
func fullLog(t *testing.T) *disk.Disk {
	t.Helper()
	return diskWith(t, 12, nil, encoded(hold(net+1, "ann", one), hold(net+2, "bob", none))...)
}

// Each error is told ahead of those behind it.
func TestErrorsInTheirOrder(t *testing.T) {
	d := fullLog(t)
	x := open(t, conf(), d)
	taken := hold(net+1, "eve", two)
	takenByGroup := hold(net+1, "eve", group) // ErrTaken by ops.Do
	freeForGroup := hold(net+5, "eve", group) // no error by ops.Do
	for _, e := range []api.Event{takenByGroup, freeForGroup} {
		checkRefused(t, x, d, e, api.ErrArgument)
	}
	checkRefused(t, x, d, taken, api.ErrTaken)
	checkRefused(t, x, d, of(api.Drop, net+9), api.ErrUnknown)
	d.Fail(0) // these errors are told ahead of the disk's
	checkRefused(t, x, d, takenByGroup, api.ErrArgument)
	checkRefused(t, x, d, freeForGroup, api.ErrArgument)
	checkRefused(t, x, d, taken, api.ErrTaken)
	if _, err := x.Do(tick); err != api.ErrDisk || !x.Only() {
		t.Fatalf("Do is %d", err)
	}
	for _, e := range []api.Event{takenByGroup, freeForGroup, taken, tick, {What: -1}, {What: 8}, of(api.Drop, net+9)} {
		checkRefused(t, x, d, e, api.ErrOnly)
	}

	full := open(t, conf(), diskWith(t, 512, codec.State(largest())))
	if _, err := full.Do(hold(net+1, "eve", group)); err != api.ErrArgument { // ErrFull by ops.Do
		t.Errorf("Do is %d", err)
	}

	// A log that is full, and too small for the state: its errors come behind those of the event, and those of the disk don't come.
	_, x, d = crowded(t)
	down(t, d)
	checkRefused(t, x, d, hold(net+1, "eve", group), api.ErrArgument)
	checkRefused(t, x, d, of(api.Drop, net+1), api.ErrUnknown)
	checkRefused(t, x, d, tick, api.ErrFull)
}

// A log that is full is begun anew with the state from ahead of the event, and the event is its one record.
func TestDoInAFullLog(t *testing.T) {
	for _, e := range []api.Event{tick, hold(net+5, "eve", two), of(api.Drop, net+1), block(api.Watch, net, 30), saw(net+1, api.Arp, one)} {
		d := fullLog(t)
		x := open(t, conf(), d)
		s := x.State()
		checkDo(t, conf(), x, e)
		checkFace(t, x, faceWith(conf(), behind(conf(), s, e), 3, 1))
		checkLog(t, d, codec.State(s), codec.Event(e))
		checkKept(t, conf(), d, x)
	}
}

// A log that has room for just one event, behind one that is full: there is room for as many as fit, and no Keep ahead of that.
func TestDoUpToTheRoom(t *testing.T) {
	for size := 10; size < 40; size++ {
		x, d := started(t, conf(), size)
		room := (size/2 - 2) / 2 // an event has two sectors, as has the state of ticks alone
		for k := range 40 {
			checkDo(t, conf(), x, tick)
			turn, records := 1, k+1
			if k >= room {
				later := (size/2 - 3) / 2
				turn, records = 2+(k-room)/later, 1+(k-room)%later
			}
			checkFace(t, x, faceWith(conf(), api.State{Now: k + 1}, turn, records))
			checkKept(t, conf(), d, x)
		}
	}
}

// The smallest disk has room for one event, and behind Keep for none: the log is begun anew each time, and nothing else happens.
func TestDoWhereThereIsNoRoomBehindKeep(t *testing.T) {
	for _, size := range []int{8, 9} {
		x, d := started(t, conf(), size, tick)
		checkFace(t, x, faceWith(conf(), api.State{Now: 1}, 1, 1))
		for k := range 4 {
			if sent, err := x.Do(tick); err != api.ErrFull || len(sent) > 0 {
				t.Fatalf("Do is %v, %d", sent, err)
			}
			checkFace(t, x, faceWith(conf(), api.State{Now: 1}, k+2, 0))
			checkLog(t, d, codec.State(api.State{Now: 1}))
			checkKept(t, conf(), d, x)
			checkRefused(t, x, d, of(api.Drop, net), api.ErrUnknown)
		}
	}
}

// In a log that is too small for the state there is no Keep, and no event: it stays as it is.
func TestDoWhereThereIsNoRoomForTheState(t *testing.T) {
	c, x, d := crowded(t)
	want := faceOf(x)
	for _, e := range []api.Event{tick, hold(net+1, "ann", none), block(api.Ignore, net, 28), saw(net+3, api.Echo, none)} {
		checkRefused(t, x, d, e, api.ErrFull)
	}
	checkFace(t, x, want)
	checkKept(t, c, d, x)
	if want.only {
		t.Error("the daemon is read only")
	}
}

// Packets are the caller's own.
func TestPacketsMayBeChanged(t *testing.T) {
	c := conf()
	c.Rate = 16
	run := func(change bool) (lists [][]wire.Packet, last face) {
		x, _ := started(t, c, 200, block(api.Watch, net, 28), block(api.Watch, net+16, 29))
		for range 25 {
			sent, err := x.Do(tick)
			if err != 0 {
				t.Fatalf("Do is %d", err)
			}
			lists = append(lists, slices.Clone(sent))
			if change {
				fill(sent, wire.Packet{To: 99})
			}
		}
		return lists, faceOf(x)
	}
	want, wantLast := run(false)
	got, last := run(true)
	if !slices.EqualFunc(got, want, slices.Equal) || last != wantLast {
		t.Errorf("the packets are\n%v, want\n%v", got, want)
	}
}

// Packets that were given stay as they were.
func TestPacketsStayAsTheyWere(t *testing.T) {
	x, _ := started(t, conf(), 60, block(api.Watch, net, 28))
	var lists, copies [][]wire.Packet
	for range 60 {
		sent, err := x.Do(tick)
		if err != 0 {
			t.Fatalf("Do is %d", err)
		}
		lists, copies = append(lists, sent), append(copies, slices.Clone(sent))
	}
	if !slices.EqualFunc(lists, copies, slices.Equal) {
		t.Errorf("the packets are\n%v, and were\n%v", lists, copies)
	}
}
