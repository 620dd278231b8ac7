package daemon_test

import (
	"slices"
	"testing"

	"terrier/api"
	"terrier/codec"
	"terrier/daemon"
	"terrier/disk"
)

// P20.2 and P20.3, where the disk stops or fails.

// restart is one way in which a disk goes on.
type restart struct {
	mask        uint64
	torn, bytes int
}

// restarts is all ways in which so many writes are kept, and one of them torn, or none; of many writes it is only some ways.
func restarts(wait int) []restart {
	masks := []uint64{0, all, 1, ^uint64(1), 0x5555555555555555, 0xaaaaaaaaaaaaaaaa, 0xff, ^uint64(0xff), 1 << 9, ^uint64(1 << 9)}
	if wait <= 6 {
		masks = nil
		for mask := range uint64(1) << wait {
			masks = append(masks, mask)
		}
	}
	var list []restart
	for _, mask := range masks {
		list = append(list, restart{mask, -1, 0})
		for torn := range min(wait, 7) {
			for _, bytes := range []int{1, 6, 11, 12, 40} {
				list = append(list, restart{mask, torn, bytes})
			}
		}
	}
	return list
}

// accident has a disk stop or fail behind so many calls.
type accident struct {
	name string
	set  func(d *disk.Disk, n int)
	err  api.Errno
}

func accidents() []accident {
	return []accident{{"stop", (*disk.Disk).Arm, api.ErrCrash}, {"failure", (*disk.Disk).Fail, api.ErrDisk}}
}

// trial is a call of a daemon: what it stands on, and the states from ahead of it and from behind it.
type trial struct {
	name          string
	start         *disk.Disk // only copies of it are used
	call          func(x *daemon.Daemon) api.Errno
	before, after api.State
	calls         int // that the disk counts, if there is no accident
}

func keep(x *daemon.Daemon) api.Errno { return x.Keep() }

func doing(e api.Event) func(x *daemon.Daemon) api.Errno {
	return func(x *daemon.Daemon) api.Errno {
		_, err := x.Do(e)
		return err
	}
}

func trialOf(t *testing.T, name string, start *disk.Disk, call func(x *daemon.Daemon) api.Errno) trial {
	t.Helper()
	d := copyOf(t, start)
	x := open(t, conf(), d)
	r := trial{name: name, start: start, call: call, before: x.State(), calls: d.Calls()}
	if err := call(x); err != 0 {
		t.Fatalf("%s is %d", name, err)
	}
	r.after, r.calls = x.State(), d.Calls()-r.calls
	return r
}

// trials are of events for which there is room, of those for which the log is begun anew, in either region, and of Keep.
func trials(t *testing.T) []trial {
	t.Helper()
	roomy := disk.Of(20)
	whole := diskWith(t, 28, codec.State(behind(conf(), api.State{}, story()...)), encoded(tick)...)
	older := diskWith(t, 20, codec.State(api.State{Now: 7}), encoded(tick, hold(net+1, "ann", one))...)
	full := diskWith(t, 12, nil, encoded(tick, hold(net+1, "ann", one))...)
	fullToo := diskWith(t, 13, codec.State(api.State{Now: 3}), encoded(block(api.Watch, net, 28))...)
	_, fullAgain := started(t, conf(), 12, tick, tick, tick, tick, tick)
	return []trial{
		trialOf(t, "Hold", roomy, doing(hold(net+5, "eve", two))),
		trialOf(t, "Tick", roomy, doing(tick)),
		trialOf(t, "Tick in a whole state", whole, doing(tick)),
		trialOf(t, "Saw", whole, doing(saw(net+1, api.Arp, one))),
		trialOf(t, "Watch", older, doing(block(api.Watch, net, 30))),
		trialOf(t, "Drop in a full log", full, doing(of(api.Drop, net+1))),
		trialOf(t, "Hold in a full log", full, doing(hold(net+9, "12345678", none))),
		trialOf(t, "Tick in a full log", fullToo, doing(tick)),
		trialOf(t, "Tick in a full log of the other region", fullAgain, doing(tick)),
		trialOf(t, "Keep", older, keep),
		trialOf(t, "Keep of a full log", full, keep),
		trialOf(t, "Keep of a whole state", whole, keep),
	}
}

func TestTheTrialsAreOfAllKinds(t *testing.T) {
	anew := 0
	for _, r := range trials(t) {
		x := open(t, conf(), copyOf(t, r.start))
		turn := x.Turn()
		if err := r.call(x); err != 0 {
			t.Fatalf("%s is %d", r.name, err)
		}
		switch x.Turn() - turn {
		case 0:
			if r.calls != 4 {
				t.Errorf("%s has the disk called %d times", r.name, r.calls)
			}
		case 1:
			anew++
		default:
			t.Errorf("%s has the turn %d behind %d", r.name, x.Turn(), turn)
		}
	}
	if anew != 7 {
		t.Errorf("%d logs were begun anew", anew)
	}
}

// run has an accident come behind n calls of a trial: the daemon tells it, it is read only from then on, and its state is the one from ahead of the call.
func (r trial) run(t *testing.T, a accident, n int) (*daemon.Daemon, *disk.Disk) {
	t.Helper()
	d := copyOf(t, r.start)
	x := open(t, conf(), d)
	turn := x.Turn()
	a.set(d, n)
	want, state := a.err, r.before
	if n >= r.calls {
		want, state = 0, r.after
	}
	if err := r.call(x); err != want {
		t.Fatalf("%s, %s at call %d: the error is %d, want %d", r.name, a.name, n, err, want)
	}
	if text(x.State()) != text(state) || x.Only() != (want != 0) || x.Turn() < turn || x.Turn() > turn+1 {
		t.Fatalf("%s, %s at call %d: the daemon tells %+v", r.name, a.name, n, faceOf(x))
	}
	return x, d
}

// checkAfter opens the disk again: what was told is there, and of what was in flight all or nothing; and it goes on.
func (r trial) checkAfter(t *testing.T, d *disk.Disk, told bool) (happened bool) {
	t.Helper()
	x := open(t, conf(), d)
	state := text(x.State())
	happened = state == text(r.after)
	if !happened && (told || state != text(r.before)) || x.Only() {
		t.Fatalf("%s: the daemon that is opened again tells\n%+v", r.name, faceOf(x))
	}
	checkDo(t, conf(), x, tick)
	checkFace(t, open(t, conf(), d), faceOf(x))
	return happened
}

func TestAccidentAtEachCall(t *testing.T) {
	for _, r := range trials(t) {
		counts := map[bool]int{}
		for _, a := range accidents() {
			for n := range r.calls + 2 {
				_, d := r.run(t, a, n)
				for _, way := range restarts(d.Wait()) {
					_, d := r.run(t, a, n)
					d.Restart(way.mask, way.torn, way.bytes)
					counts[r.checkAfter(t, d, n >= r.calls)]++
				}
			}
		}
		if counts[true] == 0 || counts[false] == 0 && text(r.before) != text(r.after) {
			t.Errorf("%s: behind an accident it had happened, or not, so often: %v", r.name, counts)
		}
	}
}

// A disk that failed goes on, and what waits on it is read: also without a restart all is there, or nothing.
func TestOpenBehindAFailureWithoutARestart(t *testing.T) {
	for _, r := range trials(t) {
		for n := range r.calls {
			_, d := r.run(t, accidents()[1], n)
			r.checkAfter(t, d, false)
		}
	}
}

// Behind an accident the daemon is read only: it tells the same, has the disk not called, and nothing else happens, also not when the disk goes on.
func TestOnlyBehindEachAccident(t *testing.T) {
	for _, r := range trials(t) {
		for _, a := range accidents() {
			for n := range r.calls {
				x, d := r.run(t, a, n)
				for range 2 {
					for _, e := range slices.Concat(story(), notAccepted(), refused()) {
						checkRefused(t, x, d, e, api.ErrOnly)
					}
					before, calls := faceOf(x), d.Calls()
					if err := x.Keep(); err != api.ErrOnly || d.Calls() != calls {
						t.Fatalf("Keep is %d, behind %d calls", err, d.Calls()-calls)
					}
					checkFace(t, x, before)
					d.Restart(all, -1, 0)
				}
			}
		}
	}
}

// A disk that is down has the daemon be read only at its next call, not ahead of it.
func TestADiskThatIsDown(t *testing.T) {
	for _, call := range []func(x *daemon.Daemon) api.Errno{keep, doing(tick), doing(hold(net+5, "dan", one))} {
		for _, size := range []int{12, 200} {
			x, d := started(t, conf(), size, hold(net+1, "ann", one), hold(net+2, "bob", one))
			want := faceOf(x)
			down(t, d)
			checkFace(t, x, want)
			checkRefused(t, x, d, hold(net+1, "eve", one), api.ErrTaken)
			checkRefused(t, x, d, hold(net+9, "Eve", one), api.ErrArgument)
			if err := call(x); err != api.ErrCrash {
				t.Errorf("the error is %d", err)
			}
			want.only = true
			checkFace(t, x, want)
			checkRefused(t, x, d, hold(net+1, "eve", one), api.ErrOnly)
			d.Restart(all, -1, 0)
			checkFace(t, x, want)
			want.only = false
			checkFace(t, open(t, conf(), d), want)
		}
	}
}
