package wal_test

import (
	"bytes"
	"math/rand"
	"slices"
	"testing"

	"terrier/api"
	"terrier/disk"
	"terrier/wal"
)

// restart is one way in which a disk goes on.
type restart struct {
	mask       uint64
	torn, part int
}

// restarts is ways of all kinds: with none of the writes, all, every other one, one alone, and with torn ones.
func restarts() []restart {
	var list []restart
	for _, mask := range []uint64{0, all, 0x5555555555555555, 0xaaaaaaaaaaaaaaaa, 1, 2, 4, 1 << 9, ^uint64(1), ^uint64(2), ^uint64(1 << 9), 0x0f0f0f0f0f0f0f0f} {
		list = append(list, restart{mask, -1, 0})
	}
	for _, torn := range []int{0, 1, 2, 9} {
		for _, part := range []int{0, 6, 11, 12, 63} {
			list = append(list, restart{0, torn, part}, restart{all, torn, part})
		}
	}
	return list
}

// accident has a disk stop or fail behind so many calls.
type accident struct {
	name string
	set  func(d *disk.Disk, n int)
	err  api.Errno
}

func accidents() []accident {
	return []accident{{"stop", (*disk.Disk).Arm, api.ErrCrash}, {"failure", (*disk.Disk).Fail, api.ErrDisk}}
}

// trial is a call of a log: what it stands on, the call, what the disk is asked, and what the log is behind it.
type trial struct {
	name    string
	start   []disk.Sector
	call    func(l *wal.Log) api.Errno
	calls   []call
	turn    int
	records [][]byte
}

// startOf is a log with some records, in the region that begins there, and an older one in the other region.
func startOf(size, first int) []disk.Sector {
	list := slices.Repeat([]disk.Sector{full(0xc5)}, size)
	clear(list[:2*(size/2)])
	copy(list[first:], region(5, []byte("x"), []byte("y")))
	copy(list[size/2-first:], region(4, mixed(70), []byte("old")))
	return list
}

func trials() []trial {
	var list []trial
	for _, size := range []int{20, 21} {
		for _, first := range []int{0, 10} {
			for _, n := range []int{0, 1, 64, 65, 180} {
				b := mixed(n)
				list = append(list, trial{
					name: "Append", start: startOf(size, first),
					call:  func(l *wal.Log) api.Errno { return l.Append(b) },
					calls: frameCalls(first+5, recordFrame(2, b)),
					turn:  5, records: append(texts("x", "y"), b),
				}, trial{
					name: "Begin", start: startOf(size, first),
					call:  func(l *wal.Log) api.Errno { return l.Begin(b) },
					calls: beginCalls(10-first, 10, 6, b),
					turn:  6, records: [][]byte{b},
				})
			}
		}
	}
	return list
}

// run makes the call of a trial on a disk that has an accident behind n calls, and the same calls on a twin.
func (c trial) run(t *testing.T, a accident, n int) (*wal.Log, *disk.Disk, *disk.Disk) {
	t.Helper()
	d, twin := diskOf(t, c.start), diskOf(t, c.start)
	l := open(t, d)
	m, err := modelOpen(twin)
	checkErr(t, "the model", err, 0)
	checkLike(t, l, d, m)
	a.set(d, n)
	a.set(twin, n)
	want := api.Errno(0)
	if n < len(c.calls) {
		want = a.err
	}
	checkErr(t, c.name, c.call(l), want)
	checkErr(t, "the model", play(twin, c.calls), want)
	if want == 0 {
		checkLog(t, l, c.turn, l.Room(), false, c.records)
	} else {
		checkLog(t, l, 5, 5, true, texts("x", "y"))
	}
	checkDisks(t, d, twin)
	return l, d, twin
}

// checkAnew opens a log anew: it has the records from ahead of a call, or those from behind it, and goes on with them.
func checkAnew(t *testing.T, d *disk.Disk, told bool, turn int, before [][]byte, newTurn int, after [][]byte) {
	t.Helper()
	l := open(t, d)
	got := l.Records()
	switch {
	case l.Turn() == newTurn && same(got, after):
		turn, before = newTurn, after
	case l.Turn() != turn || !same(got, before) || told:
		t.Errorf("the turn is %d and the records are %q", l.Turn(), got)
	}
	room := l.Room()
	checkLog(t, open(t, d), turn, room, false, before)
	if room > 1 {
		checkErr(t, "Append", l.Append([]byte("z")), 0)
		checkLog(t, open(t, d), turn, room-2, false, append(slices.Clone(before), []byte("z")))
	}
}

func TestAccidentAtEachCall(t *testing.T) {
	for _, c := range trials() {
		for _, a := range accidents() {
			for n := range len(c.calls) + 2 {
				for _, r := range restarts() {
					_, d, twin := c.run(t, a, n)
					d.Restart(r.mask, r.torn, r.part)
					twin.Restart(r.mask, r.torn, r.part)
					checkDisks(t, d, twin)
					checkAnew(t, d, n >= len(c.calls), 5, texts("x", "y"), c.turn, c.records)
					if t.Failed() {
						t.Fatalf("%s of %d bytes, %s at call %d, %v", c.name, len(c.records[len(c.records)-1]), a.name, n, r)
					}
				}
			}
		}
	}
}

// Nothing is written behind an accident, whatever the log is asked: also not when the disk goes on.
func TestNothingIsWrittenBehindAnAccident(t *testing.T) {
	for _, c := range trials() {
		for _, a := range accidents() {
			for n := range len(c.calls) {
				l, d, twin := c.run(t, a, n)
				for range 2 {
					for _, b := range [][]byte{nil, mixed(70), long()} {
						checkRefused(t, "Append", l, d, l.Append, b, api.ErrOnly)
						checkRefused(t, "Begin", l, d, l.Begin, b, api.ErrOnly)
					}
					checkDisks(t, d, twin)
					d.Restart(all, 0, 12)
					twin.Restart(all, 0, 12)
					checkDisks(t, d, twin)
				}
				if t.Failed() {
					t.Fatalf("%s, %s at call %d", c.name, a.name, n)
				}
			}
		}
	}
}

// A disk that fails goes on, and what waits on it is read: a log that is opened on it without a restart is as whole.
func TestOpenBehindAFailureWithoutARestart(t *testing.T) {
	for _, c := range trials() {
		for n := range len(c.calls) + 1 {
			_, d, _ := c.run(t, accidents()[1], n)
			d.Fail(-1) // one that is not reached counts no more
			checkAnew(t, d, n == len(c.calls), 5, texts("x", "y"), c.turn, c.records)
			if t.Failed() {
				t.Fatalf("%s, failure at call %d", c.name, n)
			}
		}
	}
}

// starts is disks on which Open clears, or begins, or only flushes.
func starts() map[string][]disk.Sector {
	garbage := slices.Repeat([]disk.Sector{full(0xc5)}, 17)
	norecord := slices.Clone(garbage)
	copy(norecord[8:], regionFrame(5))
	fullRegion := slices.Clone(garbage)
	copy(fullRegion, region(5, mixed(64), mixed(64*4)))
	return map[string][]disk.Sector{
		"zeros": make([]disk.Sector, 16), "garbage": garbage, "no record": norecord, "a full region": fullRegion,
		"records in the first region": startOf(20, 0), "records in the second region": startOf(21, 10),
	}
}

func TestAccidentAtEachCallOfOpen(t *testing.T) {
	for name, start := range starts() {
		whole := diskOf(t, start)
		ahead := whole.Calls()
		want := open(t, whole)
		length := whole.Calls() - ahead
		for _, a := range accidents() {
			for n := range length + 2 {
				for _, r := range restarts() {
					d, twin := diskOf(t, start), diskOf(t, start)
					a.set(d, n)
					a.set(twin, n)
					l, err := wal.Open(d)
					m, modelErr := modelOpen(twin)
					checkErr(t, "Open", err, modelErr)
					switch {
					case n < length && (l != nil || err != a.err):
						t.Errorf("Open = %v, %d", l, err)
					case n >= length:
						checkLike(t, l, d, m)
					}
					checkDisks(t, d, twin)
					d.Restart(r.mask, r.torn, r.part)
					twin.Restart(r.mask, r.torn, r.part)
					checkDisks(t, d, twin)
					checkLog(t, open(t, d), want.Turn(), want.Room(), false, want.Records())
					if t.Failed() {
						t.Fatalf("%s, %s at call %d, %v", name, a.name, n, r)
					}
				}
			}
		}
	}
}

// A stop while a log is opened behind a stop loses nothing either.
func TestStopOfOpenBehindAStop(t *testing.T) {
	few := []restart{{0, -1, 0}, {all, -1, 0}, {0x5555555555555555, 0, 11}, {0xaaaaaaaaaaaaaaaa, 0, 12}, {^uint64(4), 1, 30}}
	for _, c := range trials() {
		for n := range len(c.calls) + 1 {
			for _, r := range few {
				for k := range 12 {
					_, d, _ := c.run(t, accidents()[0], n)
					d.Restart(r.mask, r.torn, r.part)
					m := &model{d: d, size: 10}
					m.take(0)
					m.take(10) // what stands on the disk now is there to stay
					d.Arm(k)
					wal.Open(d)
					again := few[(n+k)%len(few)]
					d.Restart(again.mask, again.torn, again.part)
					checkLog(t, open(t, d), m.turn, m.room, false, m.records)
					checkAnew(t, d, n >= len(c.calls), 5, texts("x", "y"), c.turn, c.records)
					if t.Failed() {
						t.Fatalf("%s, stop at call %d, then at %d, %v", c.name, n, k, r)
					}
				}
			}
		}
	}
}

// The chapter's example.
func TestExample(t *testing.T) {
	x, y := []byte("x"), []byte("y")
	for _, a := range accidents() {
		for n := range 18 {
			for _, r := range []restart{{0, -1, 0}, {all, n % 3, 11}, {0x5555555555555555, -1, 0}} {
				d := disk.Of(20)
				l := open(t, d)
				checkErr(t, "Begin", l.Begin(x), 0)
				checkErr(t, "Append", l.Append(y), 0)
				a.set(d, n)
				// 11 calls clear the region, 4 write the record, and 3 write the region frame
				checkErr(t, "Begin", l.Begin([]byte("z")), a.err)
				checkLog(t, l, 2, 5, true, texts("x", "y"))
				if n == 17 {
					r = restart{0, -1, 0} // the region frame waits: without it
				}
				if n == 16 {
					r.torn, r.part = 0, 11 // and of it without its last byte
				}
				d.Restart(r.mask, r.torn, r.part)
				checkLog(t, open(t, d), 2, 5, false, texts("x", "y"))
				if t.Failed() {
					t.Fatalf("%s at call %d, %v", a.name, n, r)
				}
			}
		}
	}
}

// A head of which the first bytes alone were written is there as soon as its last byte is.
func TestTornHeads(t *testing.T) {
	for part := range 65 {
		d := disk.Of(20)
		l := open(t, d)
		d.Arm(3)
		checkErr(t, "Append", l.Append([]byte("ab")), api.ErrCrash)
		d.Restart(0, 0, part)
		want, turn := texts(""), 1
		if part >= 12 {
			want = texts("", "ab")
		}
		l = open(t, d)
		checkLog(t, l, turn, 10-2*len(want), false, want)
		d.Arm(17)
		checkErr(t, "Begin", l.Begin([]byte("z")), api.ErrCrash)
		d.Restart(0, 0, part)
		if part >= 12 {
			checkLog(t, open(t, d), 2, 7, false, texts("z"))
		} else {
			checkLog(t, open(t, d), 1, 8, false, texts(""))
		}
	}
}

// pair is a log and its model, each on a disk of its own.
type pair struct {
	d, twin *disk.Disk
	l       *wal.Log
	m       *model
}

// step does one thing, by chance, to both.
func (p *pair) step(t *testing.T, r *rand.Rand) {
	t.Helper()
	n := []int{0, 1, 5, 63, 64, 65, 128, 150, 300, 700, 16384, 16385}[r.Intn(12)]
	b := bytes.Repeat([]byte{byte(r.Intn(256))}, n)
	switch k := r.Intn(100); {
	case k < 45:
		checkErr(t, "Append", p.l.Append(b), p.m.append(b))
	case k < 62:
		checkErr(t, "Begin", p.l.Begin(b), p.m.begin(b))
	case k < 74:
		n := r.Intn(60) - 1
		p.d.Arm(n)
		p.twin.Arm(n)
	case k < 80:
		n := r.Intn(60) - 1
		p.d.Fail(n)
		p.twin.Fail(n)
	case k < 90:
		mask, torn, part := r.Uint64(), r.Intn(8)-2, r.Intn(70)-3
		p.d.Restart(mask, torn, part)
		p.twin.Restart(mask, torn, part)
	default:
		p.reopen(t)
	}
	checkLike(t, p.l, p.d, p.m)
}

// reopen keeps the logs where they can't be opened.
func (p *pair) reopen(t *testing.T) {
	t.Helper()
	l, err := wal.Open(p.d)
	m, want := modelOpen(p.twin)
	checkErr(t, "Open", err, want)
	if (l == nil) != (m == nil) {
		t.Fatalf("Open = %v, want %v", l, m)
	}
	if l != nil && m != nil {
		p.l, p.m = l, m
	}
}

func TestLogIsLikeTheModel(t *testing.T) {
	for seed := range int64(400) {
		r := rand.New(rand.NewSource(seed))
		size := []int{8, 9, 12, 20, 33, 64}[seed%6]
		p := &pair{d: disk.Of(size), twin: disk.Of(size)}
		p.reopen(t)
		for range 150 {
			p.step(t, r)
		}
		if t.Failed() {
			t.Fatalf("with the seed %d", seed)
		}
	}
}
