package disk_test

import (
	"math"
	"math/rand"
	"testing"

	"terrier/api"
	"terrier/disk"
)

const all = math.MaxUint64

// full is a sector of one byte only.
func full(c byte) disk.Sector {
	var s disk.Sector
	for i := range s {
		s[i] = c
	}
	return s
}

// rising is a sector of bytes that differ.
func rising(first byte) disk.Sector {
	var s disk.Sector
	for i := range s {
		s[i] = first + byte(i)
	}
	return s
}

// torn is a sector of which the first n bytes were written over.
func torn(under, over disk.Sector, n int) disk.Sector {
	for i := range n {
		under[i] = over[i]
	}
	return under
}

func checkRead(t *testing.T, d *disk.Disk, at int, want disk.Sector) {
	t.Helper()
	if got, err := d.Read(at); got != want || err != 0 {
		t.Errorf("Read(%d) = %v, %d; want %v, 0", at, got, err, want)
	}
}

func checkNoRead(t *testing.T, d *disk.Disk, at int, want api.Errno) {
	t.Helper()
	if got, err := d.Read(at); got != (disk.Sector{}) || err != want {
		t.Errorf("Read(%d) = %v, %d; want zeros, %d", at, got, err, want)
	}
}

func checkWrite(t *testing.T, d *disk.Disk, at int, s disk.Sector, want api.Errno) {
	t.Helper()
	if err := d.Write(at, s); err != want {
		t.Errorf("Write(%d, %v) = %d, want %d", at, s, err, want)
	}
}

func checkFlush(t *testing.T, d *disk.Disk, want api.Errno) {
	t.Helper()
	if err := d.Flush(); err != want {
		t.Errorf("Flush() = %d, want %d", err, want)
	}
}

func checkCounts(t *testing.T, d *disk.Disk, wait, calls int, down bool) {
	t.Helper()
	if d.Wait() != wait || d.Calls() != calls || d.Down() != down {
		t.Errorf("Wait, Calls, Down = %d, %d, %v; want %d, %d, %v", d.Wait(), d.Calls(), d.Down(), wait, calls, down)
	}
}

// checkDown tells that a disk refuses everything, also where there is no sector, and counts none of it.
func checkDown(t *testing.T, d *disk.Disk, wait, calls int) {
	t.Helper()
	checkCounts(t, d, wait, calls, true)
	for _, at := range []int{math.MinInt, -1, 0, d.Size() - 1, d.Size(), d.Size() + 1, math.MaxInt} {
		checkNoRead(t, d, at, api.ErrCrash)
		checkWrite(t, d, at, full(77), api.ErrCrash)
		checkFlush(t, d, api.ErrCrash)
	}
	checkCounts(t, d, wait, calls, true)
}

// P5.1

func TestOfHasSoManySectors(t *testing.T) {
	for _, c := range []struct{ size, want int }{
		{math.MinInt, 0}, {-512, 0}, {-2, 0}, {-1, 0}, {0, 0}, {1, 1}, {2, 2}, {8, 8}, {64, 64}, {65, 65},
		{511, 511}, {512, 512}, {513, 512}, {1000, 512}, {1 << 40, 512}, {math.MaxInt, 512},
	} {
		d := disk.Of(c.size)
		if got := d.Size(); got != c.want {
			t.Errorf("Of(%d).Size() = %d, want %d", c.size, got, c.want)
		}
		checkCounts(t, d, 0, 0, false)
		for at := range c.want {
			checkRead(t, d, at, disk.Sector{})
		}
		checkNoRead(t, d, c.want, api.ErrRange)
		checkWrite(t, d, c.want, full(1), api.ErrRange)
	}
}

func TestSectorHas64Bytes(t *testing.T) {
	if n := len(disk.Sector{}); n != 64 {
		t.Errorf("a sector has %d bytes", n)
	}
}

func TestSizeStaysTheSame(t *testing.T) {
	d := disk.Of(3)
	check := func(behind string) {
		if d.Size() != 3 {
			t.Errorf("behind %s the size is %d", behind, d.Size())
		}
	}
	d.Write(2, full(1))
	check("Write")
	d.Write(3, full(1))
	check("Write out of range")
	d.Flush()
	check("Flush")
	d.Arm(0)
	d.Flush()
	check("a stop")
	d.Restart(0, -1, 0)
	check("Restart")
}

func TestWaitAndCallsBehindEachCall(t *testing.T) {
	d := disk.Of(4)
	checkRead(t, d, 0, disk.Sector{})
	checkCounts(t, d, 0, 0, false)
	checkWrite(t, d, 0, full(1), 0)
	checkCounts(t, d, 1, 1, false)
	checkWrite(t, d, 0, full(1), 0) // the same one again is one more
	checkCounts(t, d, 2, 2, false)
	checkWrite(t, d, 3, full(2), 0)
	checkCounts(t, d, 3, 3, false)
	checkRead(t, d, 3, full(2))
	checkNoRead(t, d, 4, api.ErrRange)
	checkWrite(t, d, 4, full(3), api.ErrRange)
	checkWrite(t, d, -1, full(3), api.ErrRange)
	checkCounts(t, d, 3, 3, false)
	d.Arm(9)
	d.Fail(9)
	checkCounts(t, d, 3, 3, false)
	checkFlush(t, d, 0)
	checkCounts(t, d, 0, 4, false)
	checkFlush(t, d, 0) // with nothing pending
	checkCounts(t, d, 0, 5, false)
	d.Fail(0)
	checkWrite(t, d, 1, full(4), api.ErrDisk)
	checkCounts(t, d, 0, 6, false)
	checkWrite(t, d, 1, full(5), 0)
	d.Fail(0)
	checkFlush(t, d, api.ErrDisk)
	checkCounts(t, d, 1, 8, false)
	d.Arm(0)
	checkWrite(t, d, 2, full(6), api.ErrCrash)
	checkDown(t, d, 2, 9)
	d.Restart(all, -1, 0)
	checkCounts(t, d, 0, 9, false)
	checkWrite(t, d, 2, full(7), 0)
	d.Arm(0)
	checkFlush(t, d, api.ErrCrash)
	checkDown(t, d, 1, 11)
	d.Restart(0, -1, 0)
	checkCounts(t, d, 0, 11, false)
	d.Restart(0, -1, 0)
	checkCounts(t, d, 0, 11, false)
}

// P5.2

func TestAccessAtTheEdges(t *testing.T) {
	for _, size := range []int{0, 1, 2, 5, 511, 512, 600} {
		d := disk.Of(size)
		last := d.Size() - 1
		for _, at := range []int{math.MinInt, -d.Size(), -2, -1, d.Size(), d.Size() + 1, 600, 1 << 32, 1<<32 + 1, math.MaxInt} {
			checkNoRead(t, d, at, api.ErrRange)
			checkWrite(t, d, at, full(9), api.ErrRange)
		}
		checkCounts(t, d, 0, 0, false)
		if d.Size() == 0 {
			checkFlush(t, d, 0)
			checkCounts(t, d, 0, 1, false)
			continue
		}
		checkWrite(t, d, 0, rising(1), 0)
		checkWrite(t, d, last, rising(2), 0)
		checkRead(t, d, last, rising(2))
		checkFlush(t, d, 0)
		checkRead(t, d, last, rising(2))
		if last > 0 {
			checkRead(t, d, 0, rising(1))
		}
		for at := 1; at < last; at++ {
			checkRead(t, d, at, disk.Sector{})
		}
	}
}

func TestReadIsOfTheLastWrite(t *testing.T) {
	d := disk.Of(4)
	checkRead(t, d, 1, disk.Sector{})
	checkWrite(t, d, 1, rising(10), 0)
	checkRead(t, d, 1, rising(10))
	checkRead(t, d, 0, disk.Sector{})
	checkRead(t, d, 2, disk.Sector{})
	checkWrite(t, d, 1, rising(20), 0)
	checkRead(t, d, 1, rising(20))
	checkWrite(t, d, 2, rising(30), 0)
	checkRead(t, d, 1, rising(20))
	checkWrite(t, d, 1, disk.Sector{}, 0) // zeros are contents as others are
	checkRead(t, d, 1, disk.Sector{})
	checkRead(t, d, 2, rising(30))
	checkWrite(t, d, 1, rising(40), 0)
	checkCounts(t, d, 5, 5, false)
	checkFlush(t, d, 0)
	checkRead(t, d, 0, disk.Sector{})
	checkRead(t, d, 1, rising(40))
	checkRead(t, d, 2, rising(30))
	checkRead(t, d, 3, disk.Sector{})
	checkWrite(t, d, 1, rising(50), 0)
	checkRead(t, d, 1, rising(50))
	checkWrite(t, d, 3, rising(60), 0)
	checkRead(t, d, 3, rising(60))
	checkRead(t, d, 2, rising(30))
	checkRead(t, d, 1, rising(50))
	checkRead(t, d, 1, rising(50)) // reading makes no difference
}

// What was flushed is there whatever is lost behind that; what was not is gone.
func TestFlushKeepsAllThatWaits(t *testing.T) {
	d := disk.Of(3)
	checkWrite(t, d, 0, rising(1), 0)
	checkWrite(t, d, 2, rising(2), 0)
	checkWrite(t, d, 0, rising(3), 0)
	checkFlush(t, d, 0)
	checkWrite(t, d, 1, rising(4), 0)
	checkWrite(t, d, 2, rising(5), 0)
	d.Restart(0, -1, 0)
	checkRead(t, d, 0, rising(3))
	checkRead(t, d, 1, disk.Sector{})
	checkRead(t, d, 2, rising(2))
}

func TestFlushOfManyWrites(t *testing.T) {
	d := disk.Of(512)
	for round := range 3 {
		for at := range 512 {
			checkWrite(t, d, at, rising(byte(at+round*7)), 0)
		}
	}
	checkCounts(t, d, 1536, 1536, false)
	checkFlush(t, d, 0)
	checkCounts(t, d, 0, 1537, false)
	d.Restart(0, -1, 0)
	for at := range 512 {
		checkRead(t, d, at, rising(byte(at+14)))
	}
}

func TestSectorsBelongToTheCaller(t *testing.T) {
	d := disk.Of(2)
	s := rising(1)
	checkWrite(t, d, 0, s, 0)
	s[0], s[63] = 200, 201
	checkRead(t, d, 0, rising(1))
	got, _ := d.Read(0)
	got[5] = 202
	checkRead(t, d, 0, rising(1))
	checkFlush(t, d, 0)
	checkRead(t, d, 0, rising(1))
	s = full(9)
	got[6] = 203
	checkRead(t, d, 0, rising(1))
	got, _ = d.Read(0)
	got[7] = 204
	checkRead(t, d, 0, rising(1))
	checkWrite(t, d, 1, s, 0)
	s[3] = 1
	d.Restart(1, -1, 0)
	s[4] = 1
	checkRead(t, d, 1, full(9))
}

func TestDisksHaveNothingInCommon(t *testing.T) {
	a, b := disk.Of(3), disk.Of(3)
	checkWrite(t, a, 1, rising(1), 0)
	checkWrite(t, b, 2, rising(2), 0)
	checkWrite(t, b, 1, rising(3), 0)
	checkCounts(t, a, 1, 1, false)
	checkCounts(t, b, 2, 2, false)
	checkFlush(t, a, 0)
	checkCounts(t, b, 2, 2, false)
	checkRead(t, a, 1, rising(1))
	checkRead(t, a, 2, disk.Sector{})
	a.Arm(0)
	a.Fail(1)
	checkFlush(t, b, 0)
	checkCounts(t, b, 0, 3, false)
	checkFlush(t, a, api.ErrCrash)
	checkDown(t, a, 0, 3)
	checkRead(t, b, 1, rising(3))
	checkWrite(t, b, 1, rising(4), 0)
	checkWrite(t, b, 0, rising(5), 0)
	a.Restart(0, -1, 0)
	checkCounts(t, b, 2, 5, false)
	checkRead(t, b, 1, rising(4))
	checkRead(t, b, 2, rising(2))
	checkRead(t, a, 1, rising(1))
}

// P5.3

// access is a counted call, and what it leaves.
type access struct {
	name  string
	call  func(d *disk.Disk) api.Errno
	stays int // how many writes a stop at it adds to those that wait
}

func accesses() []access {
	return []access{
		{"Write", func(d *disk.Disk) api.Errno { return d.Write(1, rising(90)) }, 1},
		{"Flush", (*disk.Disk).Flush, 0},
	}
}

func TestArmStopsBehindSoManyCalls(t *testing.T) {
	for _, a := range accesses() {
		for _, n := range []int{0, 1, 2, 3, 64, 700} {
			d := disk.Of(2)
			d.Arm(n)
			for range n {
				checkWrite(t, d, 0, rising(5), 0)
			}
			checkCounts(t, d, n, n, false)
			if err := a.call(d); err != api.ErrCrash {
				t.Errorf("%s behind %d calls = %d", a.name, n, err)
			}
			checkDown(t, d, n+a.stays, n+1)
		}
	}
}

func TestFailFailsBehindSoManyCallsOnce(t *testing.T) {
	for _, a := range accesses() {
		for _, n := range []int{0, 1, 2, 3, 64, 700} {
			d := disk.Of(2)
			d.Fail(n)
			for range n {
				checkWrite(t, d, 0, rising(5), 0)
			}
			if err := a.call(d); err != api.ErrDisk {
				t.Errorf("%s behind %d calls = %d", a.name, n, err)
			}
			checkCounts(t, d, n, n+1, false)
			checkRead(t, d, 1, disk.Sector{})
			for range n + 5 {
				checkWrite(t, d, 1, rising(6), 0)
			}
			checkCounts(t, d, n+n+5, n+1+n+5, false)
			checkFlush(t, d, 0)
			checkRead(t, d, 1, rising(6))
			checkFlush(t, d, 0)
			checkCounts(t, d, 0, n+1+n+7, false)
		}
	}
}

func TestNegativeNumbersNeverCome(t *testing.T) {
	for _, n := range []int{-1, -2, -64, -1 << 32, math.MinInt + 1, math.MinInt} {
		d := disk.Of(1)
		d.Arm(n)
		d.Fail(n)
		for range 200 {
			checkWrite(t, d, 0, rising(1), 0)
			checkFlush(t, d, 0)
		}
		checkCounts(t, d, 0, 400, false)
	}
}

func TestNegativeNumbersReplaceEarlierOnes(t *testing.T) {
	for _, n := range []int{-1, -7, math.MinInt} {
		d := disk.Of(1)
		d.Arm(0)
		d.Fail(1)
		d.Arm(n)
		d.Fail(n)
		for range 5 {
			checkWrite(t, d, 0, rising(1), 0)
			checkFlush(t, d, 0)
		}
		checkCounts(t, d, 0, 10, false)
	}
}

// A number of calls that were counted, and the greatest one there is, add up to more than an int holds.
func TestGreatNumbersDoNotCome(t *testing.T) {
	for _, n := range []int{1 << 31, 1 << 32, 1 << 62, math.MaxInt - 1, math.MaxInt} {
		d := disk.Of(1)
		for range 3 {
			checkFlush(t, d, 0)
		}
		d.Arm(n)
		d.Fail(n)
		for range 300 {
			checkWrite(t, d, 0, rising(1), 0)
			checkFlush(t, d, 0)
		}
		checkCounts(t, d, 0, 603, false)
	}
}

func TestLaterNumbersReplaceEarlierOnes(t *testing.T) {
	for _, c := range []struct{ before, between, behind int }{{0, 0, 2}, {5, 0, 1}, {3, 2, 2}, {1, 1, 0}, {2, 2, 3}, {9, 4, 0}, {-1, 3, 1}} {
		d := disk.Of(1)
		d.Arm(c.before)
		for range c.between {
			checkFlush(t, d, 0)
		}
		d.Arm(c.behind)
		for range c.behind {
			checkFlush(t, d, 0)
		}
		checkFlush(t, d, api.ErrCrash)
		checkDown(t, d, 0, c.between+c.behind+1)

		d = disk.Of(1)
		d.Fail(c.before)
		for range c.between {
			checkFlush(t, d, 0)
		}
		d.Fail(c.behind)
		for range c.behind {
			checkFlush(t, d, 0)
		}
		checkFlush(t, d, api.ErrDisk)
		for range 20 {
			checkFlush(t, d, 0)
		}
		checkCounts(t, d, 0, c.between+c.behind+21, false)
	}
}

func TestArmAndFailLeaveEachOther(t *testing.T) {
	d := disk.Of(1)
	d.Arm(2)
	d.Fail(0)
	checkFlush(t, d, api.ErrDisk) // a call at which it fails is one of those ahead of the stop
	d.Fail(-1)
	checkFlush(t, d, 0)
	checkFlush(t, d, api.ErrCrash)
	checkDown(t, d, 0, 3)

	d = disk.Of(1)
	d.Fail(2)
	d.Arm(0)
	d.Arm(-1)
	checkFlush(t, d, 0)
	checkFlush(t, d, 0)
	checkFlush(t, d, api.ErrDisk)
	checkCounts(t, d, 0, 3, false)

	d = disk.Of(1)
	d.Fail(1)
	d.Arm(0)
	checkFlush(t, d, api.ErrCrash) // the stop comes first, and the disk fails at nothing behind it
	checkDown(t, d, 0, 1)
}

func TestStopComesAheadOfFailure(t *testing.T) {
	for _, a := range accesses() {
		for _, n := range []int{0, 1, 5} {
			for _, armFirst := range []bool{true, false} {
				d := disk.Of(2)
				if armFirst {
					d.Arm(n)
				}
				d.Fail(n)
				if !armFirst {
					d.Arm(n)
				}
				for range n {
					checkWrite(t, d, 0, rising(5), 0)
				}
				if err := a.call(d); err != api.ErrCrash {
					t.Errorf("%s behind %d calls, where both apply, = %d", a.name, n, err)
				}
				checkDown(t, d, n+a.stays, n+1)
				d.Restart(all, -1, 0)
				if a.stays == 1 {
					checkRead(t, d, 1, rising(90))
				}
				checkFlush(t, d, 0)
			}
		}
	}
}

// Only writes to a sector that is there, and flushes, move the disk towards its stop.
func TestCallsThatAreNotCounted(t *testing.T) {
	for _, want := range []api.Errno{api.ErrCrash, api.ErrDisk} {
		d := disk.Of(2)
		if want == api.ErrCrash {
			d.Arm(1)
		} else {
			d.Fail(1)
		}
		others := func() {
			for range 3 {
				d.Read(0)
				checkNoRead(t, d, 2, api.ErrRange)
				checkWrite(t, d, 2, full(1), api.ErrRange)
				checkWrite(t, d, -1, full(1), api.ErrRange)
				d.Size()
				d.Wait()
				d.Down()
				d.Calls()
			}
		}
		others()
		checkCounts(t, d, 0, 0, false)
		checkWrite(t, d, 0, rising(1), 0)
		others()
		checkCounts(t, d, 1, 1, false)
		checkFlush(t, d, want)
		checkCounts(t, d, 1, 2, want == api.ErrCrash)
	}
}

func TestWriteAtAStopIsPending(t *testing.T) {
	for _, c := range []struct {
		mask uint64
		want disk.Sector
	}{{2, rising(2)}, {all, rising(2)}, {1, rising(1)}, {0, disk.Sector{}}} {
		d := disk.Of(2)
		checkWrite(t, d, 1, rising(1), 0)
		d.Arm(0)
		checkWrite(t, d, 1, rising(2), api.ErrCrash)
		checkDown(t, d, 2, 2)
		d.Restart(c.mask, -1, 0)
		checkRead(t, d, 1, c.want)
	}
}

func TestWriteAtAFailureIsNotPending(t *testing.T) {
	d := disk.Of(2)
	checkWrite(t, d, 1, rising(1), 0)
	d.Fail(0)
	checkWrite(t, d, 1, rising(2), api.ErrDisk)
	checkCounts(t, d, 1, 2, false)
	checkRead(t, d, 1, rising(1))
	checkWrite(t, d, 0, rising(3), 0)
	checkFlush(t, d, 0)
	checkRead(t, d, 0, rising(3))
	checkRead(t, d, 1, rising(1))
	d.Restart(all, -1, 0)
	checkRead(t, d, 1, rising(1))
}

func TestWritesStayPendingAtAFlushThatStops(t *testing.T) {
	for mask := range uint64(8) {
		d := disk.Of(3)
		for at := range 3 {
			checkWrite(t, d, at, rising(byte(at+1)), 0)
		}
		d.Arm(0)
		checkFlush(t, d, api.ErrCrash)
		checkDown(t, d, 3, 4)
		d.Restart(mask, -1, 0)
		for at := range 3 {
			want := disk.Sector{}
			if mask>>at&1 == 1 {
				want = rising(byte(at + 1))
			}
			checkRead(t, d, at, want)
		}
	}
}

func TestWritesStayPendingAtAFlushThatFails(t *testing.T) {
	for mask := range uint64(8) {
		d := disk.Of(3)
		for at := range 3 {
			checkWrite(t, d, at, rising(byte(at+1)), 0)
		}
		d.Fail(0)
		checkFlush(t, d, api.ErrDisk)
		checkCounts(t, d, 3, 4, false)
		for at := range 3 {
			checkRead(t, d, at, rising(byte(at+1)))
		}
		d.Restart(mask, -1, 0)
		for at := range 3 {
			want := disk.Sector{}
			if mask>>at&1 == 1 {
				want = rising(byte(at + 1))
			}
			checkRead(t, d, at, want)
		}
	}
	d := disk.Of(1)
	checkWrite(t, d, 0, rising(1), 0)
	d.Fail(0)
	checkFlush(t, d, api.ErrDisk)
	checkFlush(t, d, 0) // the next one carries out what stayed
	checkCounts(t, d, 0, 3, false)
	d.Restart(0, -1, 0)
	checkRead(t, d, 0, rising(1))
}

func TestArmOfADiskThatIsDown(t *testing.T) {
	for _, n := range []int{-1, 0, 1, 5} {
		d := disk.Of(2)
		checkWrite(t, d, 0, rising(1), 0)
		d.Arm(0)
		checkFlush(t, d, api.ErrCrash)
		d.Arm(n)
		d.Fail(n)
		checkDown(t, d, 1, 2)
		d.Restart(all, -1, 0)
		for range 10 {
			checkFlush(t, d, 0)
		}
		checkCounts(t, d, 0, 12, false)
		checkRead(t, d, 0, rising(1))
	}
}

// P5.4

func TestRestartExample(t *testing.T) {
	d := disk.Of(8)
	checkWrite(t, d, 3, rising(30), 0)
	checkWrite(t, d, 5, rising(50), 0)
	d.Restart(2, -1, 0)
	checkRead(t, d, 3, disk.Sector{})
	checkRead(t, d, 5, rising(50))
	checkCounts(t, d, 0, 2, false)
}

func TestRestartWithMasks(t *testing.T) {
	masks := []uint64{0, 1, 2, 3, 0x8000000000000000, 0x7fffffffffffffff, 0x5555555555555555, 0xaaaaaaaaaaaaaaaa, 0x100000000, 0xffffffff, 0xffffffff00000000, all}
	for _, mask := range masks {
		for _, n := range []int{0, 1, 2, 63, 64, 65, 66, 127, 128, 129, 200, 512} {
			d := disk.Of(512)
			for at := range n {
				checkWrite(t, d, at, rising(byte(at+1)), 0)
			}
			d.Restart(mask, -1, 0)
			checkCounts(t, d, 0, n, false)
			for at := range 512 {
				want := disk.Sector{}
				if at < n && mask&(uint64(1)<<uint(at%64)) != 0 {
					want = rising(byte(at + 1))
				}
				checkRead(t, d, at, want)
			}
		}
	}
}

// The numbers are those of the writes, not of their sectors, and flushed ones have none.
func TestRestartNumbersTheWritesThatWait(t *testing.T) {
	d := disk.Of(9)
	checkWrite(t, d, 0, rising(1), 0)
	checkWrite(t, d, 1, rising(2), 0)
	checkWrite(t, d, 2, rising(3), 0)
	checkFlush(t, d, 0)
	checkWrite(t, d, 8, rising(4), 0)
	checkWrite(t, d, 9, rising(9), api.ErrRange)
	d.Fail(0)
	checkWrite(t, d, 7, rising(9), api.ErrDisk)
	checkWrite(t, d, 5, rising(5), 0)
	checkWrite(t, d, 0, rising(6), 0)
	checkWrite(t, d, 4, rising(7), 0)
	d.Restart(1|4, 3, 7)
	for at, want := range []disk.Sector{rising(6), rising(2), rising(3), {}, torn(disk.Sector{}, rising(7), 7), {}, {}, {}, rising(4)} {
		checkRead(t, d, at, want)
	}
}

func TestRestartOfATornWrite(t *testing.T) {
	for _, mask := range []uint64{0, all, 2, ^uint64(2)} {
		for _, c := range []struct{ bytes, want int }{
			{math.MinInt, 0}, {-64, 0}, {-1, 0}, {0, 0}, {1, 1}, {2, 2}, {31, 31}, {32, 32}, {62, 62}, {63, 63},
			{64, 64}, {65, 64}, {128, 64}, {1 << 32, 64}, {math.MaxInt, 64},
		} {
			d := disk.Of(3)
			checkWrite(t, d, 1, full(200), 0)
			checkFlush(t, d, 0)
			checkWrite(t, d, 0, rising(1), 0)
			checkWrite(t, d, 1, rising(2), 0)
			checkWrite(t, d, 2, rising(3), 0)
			d.Restart(mask, 1, c.bytes)
			checkRead(t, d, 1, torn(full(200), rising(2), c.want))
			for at := 0; at < 3; at += 2 {
				want := disk.Sector{}
				if mask>>at&1 == 1 {
					want = rising(byte(at + 1))
				}
				checkRead(t, d, at, want)
			}
			checkCounts(t, d, 0, 5, false)
		}
	}
}

// A torn number is not taken modulo 64, as those of the mask are.
func TestRestartWithATornNumberOfNoWrite(t *testing.T) {
	for _, number := range []int{math.MinInt, -64, -63, -2, -1, 3, 4, 64, 65, 66, 128, 1 << 32, math.MaxInt} {
		for mask := range uint64(8) {
			d := disk.Of(3)
			for at := range 3 {
				checkWrite(t, d, at, rising(byte(at+1)), 0)
			}
			d.Restart(mask, number, 5)
			for at := range 3 {
				want := disk.Sector{}
				if mask>>at&1 == 1 {
					want = rising(byte(at + 1))
				}
				checkRead(t, d, at, want)
			}
		}
	}
}

func TestRestartOfATornWriteBehind64(t *testing.T) {
	for _, number := range []int{0, 1, 63, 64, 65, 127, 128, 199} {
		for _, mask := range []uint64{0, all} {
			d := disk.Of(200)
			for at := range 200 {
				checkWrite(t, d, at, rising(byte(at+1)), 0)
			}
			d.Restart(mask, number, 9)
			for at := range 200 {
				want := disk.Sector{}
				if at == number {
					want = torn(want, rising(byte(at+1)), 9)
				} else if mask == all {
					want = rising(byte(at + 1))
				}
				checkRead(t, d, at, want)
			}
		}
	}
}

func TestRestartWithSeveralWritesToOneSector(t *testing.T) {
	for mask := range uint64(16) {
		for number := -1; number < 5; number++ {
			for _, n := range []int{0, 1, 20, 63, 64} {
				d := disk.Of(2)
				checkWrite(t, d, 0, full(100), 0)
				checkFlush(t, d, 0)
				want := full(100)
				for i := range 4 {
					s := rising(byte(20*i + 1))
					checkWrite(t, d, 0, s, 0)
					if i == number {
						want = torn(want, s, n)
					} else if mask>>i&1 == 1 {
						want = s
					}
				}
				d.Restart(mask, number, n)
				checkRead(t, d, 0, want)
				checkRead(t, d, 1, disk.Sector{})
			}
		}
	}
}

func TestRestartEndsAStop(t *testing.T) {
	for _, a := range accesses() {
		d := disk.Of(2)
		checkWrite(t, d, 0, rising(1), 0)
		d.Arm(0)
		if err := a.call(d); err != api.ErrCrash {
			t.Errorf("%s = %d", a.name, err)
		}
		checkDown(t, d, 1+a.stays, 2)
		d.Restart(1, -1, 0)
		checkCounts(t, d, 0, 2, false)
		checkRead(t, d, 0, rising(1))
		checkRead(t, d, 1, disk.Sector{})
		checkNoRead(t, d, 2, api.ErrRange)
		checkWrite(t, d, 1, rising(2), 0)
		checkFlush(t, d, 0)
		checkCounts(t, d, 0, 4, false)
		d.Arm(1) // it may stop again
		checkWrite(t, d, 1, rising(3), 0)
		checkFlush(t, d, api.ErrCrash)
		checkDown(t, d, 1, 6)
		d.Restart(0, -1, 0)
		checkRead(t, d, 1, rising(2))
	}
}

func TestRestartEndsArmAndFail(t *testing.T) {
	for _, n := range []int{0, 1, 2, 7} {
		d := disk.Of(1)
		d.Arm(n)
		d.Restart(0, -1, 0)
		d.Fail(n)
		for range n {
			checkFlush(t, d, 0)
		}
		checkFlush(t, d, api.ErrDisk) // Fail behind the restart counts, Arm ahead of it does not
		d.Fail(n)
		d.Restart(0, -1, 0)
		for range 10 {
			checkWrite(t, d, 0, rising(1), 0)
			checkFlush(t, d, 0)
		}
		checkCounts(t, d, 0, n+21, false)
	}
}

// What a restart left out is gone for good, and what it carried out is kept.
func TestRestartTwice(t *testing.T) {
	d := disk.Of(2)
	checkWrite(t, d, 0, rising(1), 0)
	checkWrite(t, d, 1, rising(2), 0)
	d.Restart(1, -1, 0)
	d.Restart(all, 0, 3)
	checkRead(t, d, 0, rising(1))
	checkRead(t, d, 1, disk.Sector{})
	checkFlush(t, d, 0)
	checkRead(t, d, 0, rising(1))
	checkRead(t, d, 1, disk.Sector{})
}

func TestRestartOfADiskWithoutSectors(t *testing.T) {
	d := disk.Of(0)
	d.Arm(0)
	checkFlush(t, d, api.ErrCrash)
	checkDown(t, d, 0, 1)
	d.Restart(all, 0, 64)
	checkCounts(t, d, 0, 1, false)
	checkNoRead(t, d, 0, api.ErrRange)
	checkFlush(t, d, 0)
}

// P5.1 to P5.4

// model keeps a disk in another way: its sectors as they are read and as they are kept, and the stop and the failure as numbers of calls.
type model struct {
	size           int
	read, kept     map[int]disk.Sector
	places         []int
	contents       []disk.Sector
	calls          int
	stopAt, failAt int // below 0: never
	down           bool
}

func modelOf(size int) *model {
	return &model{size: min(max(size, 0), 512), read: map[int]disk.Sector{}, kept: map[int]disk.Sector{}, stopAt: -1, failAt: -1}
}

func (m *model) at(n int) int {
	if n < 0 {
		return -1
	}
	return m.calls + n
}

func (m *model) refuses(at int) api.Errno {
	switch {
	case m.down:
		return api.ErrCrash
	case at < 0, at >= m.size:
		return api.ErrRange
	}
	return 0
}

func (m *model) counted() api.Errno {
	number := m.calls
	m.calls++
	switch number {
	case m.stopAt:
		m.down = true
		return api.ErrCrash
	case m.failAt:
		return api.ErrDisk
	}
	return 0
}

func (m *model) write(at int, s disk.Sector) api.Errno {
	if err := m.refuses(at); err != 0 {
		return err
	}
	err := m.counted()
	if err == api.ErrDisk {
		return err
	}
	m.places, m.contents = append(m.places, at), append(m.contents, s)
	m.read[at] = s
	return err
}

func (m *model) flush() api.Errno {
	if m.down {
		return api.ErrCrash
	}
	err := m.counted()
	if err == 0 {
		m.places, m.contents = nil, nil
		for at, s := range m.read {
			m.kept[at] = s
		}
	}
	return err
}

func (m *model) restart(mask uint64, number, bytes int) {
	for i, at := range m.places {
		s := m.kept[at]
		for j := range s {
			if i == number && j < bytes || i != number && mask/(1<<(i%64))%2 == 1 {
				s[j] = m.contents[i][j]
			}
		}
		m.kept[at] = s
	}
	m.places, m.contents, m.down, m.stopAt, m.failAt = nil, nil, false, -1, -1
	m.read = map[int]disk.Sector{}
	for at, s := range m.kept {
		m.read[at] = s
	}
}

// step does one thing, by chance, to both.
func step(t *testing.T, r *rand.Rand, d *disk.Disk, m *model) {
	at := r.Intn(m.size+3) - 1
	switch k := r.Intn(100); {
	case k < 50:
		s := rising(byte(r.Intn(256)))
		checkWrite(t, d, at, s, m.write(at, s))
	case k < 70:
		if err := m.refuses(at); err != 0 {
			checkNoRead(t, d, at, err)
		} else {
			checkRead(t, d, at, m.read[at])
		}
	case k < 80:
		checkFlush(t, d, m.flush())
	case k < 86:
		n := r.Intn(12) - 1
		d.Arm(n)
		m.stopAt = m.at(n)
	case k < 92:
		n := r.Intn(12) - 1
		d.Fail(n)
		m.failAt = m.at(n)
	default:
		mask, number, bytes := r.Uint64(), r.Intn(20)-2, r.Intn(70)-3
		d.Restart(mask, number, bytes)
		m.restart(mask, number, bytes)
	}
	checkCounts(t, d, len(m.places), m.calls, m.down)
}

func TestDiskIsLikeTheModel(t *testing.T) {
	for seed := range int64(300) {
		r := rand.New(rand.NewSource(seed))
		size := []int{-3, 0, 1, 2, 5, 9, 512, 600}[seed%8]
		d, m := disk.Of(size), modelOf(size)
		for range 400 {
			step(t, r, d, m)
		}
		d.Restart(all, -1, 0)
		m.restart(all, -1, 0)
		for at := range m.size {
			checkRead(t, d, at, m.kept[at])
		}
		if t.Failed() {
			t.Fatalf("with the seed %d", seed)
		}
	}
}
