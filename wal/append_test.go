package wal_test

import (
	"bytes"
	"slices"
	"testing"

	"terrier/api"
	"terrier/disk"
	"terrier/wal"
)

// long is more bytes than a record may have.
func long() []byte { return make([]byte, 16385) }

// checkRefused tells that a call has an error and that nothing else comes of it.
func checkRefused(t *testing.T, what string, l *wal.Log, d *disk.Disk, f func([]byte) api.Errno, b []byte, want api.Errno) {
	t.Helper()
	turn, room, broken, records := l.Turn(), l.Room(), l.Broken(), l.Records()
	wait, calls, down := d.Wait(), d.Calls(), d.Down()
	checkErr(t, what, f(b), want)
	checkLog(t, l, turn, room, broken, records)
	checkCounts(t, d, wait, calls, down)
}

// P6.2

func TestRecordsTurnAndRoom(t *testing.T) {
	d := disk.Of(40)
	l := open(t, d)
	checkLog(t, l, 1, 18, false, texts(""))
	checkErr(t, "Append", l.Append([]byte("a")), 0)
	checkLog(t, l, 1, 16, false, texts("", "a"))
	checkErr(t, "Append", l.Append(nil), 0)
	checkLog(t, l, 1, 15, false, texts("", "a", ""))
	checkErr(t, "Append", l.Append([]byte("a")), 0) // the same bytes are a record again
	checkLog(t, l, 1, 13, false, texts("", "a", "", "a"))
	checkErr(t, "Append", l.Append(mixed(129)), 0)
	checkLog(t, l, 1, 9, false, append(texts("", "a", "", "a"), mixed(129)))
	checkErr(t, "Begin", l.Begin([]byte("b")), 0)
	checkLog(t, l, 2, 17, false, texts("b"))
	checkErr(t, "Append", l.Append([]byte("c")), 0)
	checkLog(t, l, 2, 15, false, texts("b", "c"))
	checkErr(t, "Begin", l.Begin(nil), 0)
	checkLog(t, l, 3, 18, false, texts(""))
}

func TestRecordsWhenTheDiskIsDown(t *testing.T) {
	d := disk.Of(20)
	l := open(t, d)
	checkErr(t, "Append", l.Append([]byte("ab")), 0)
	d.Arm(0)
	d.Flush()
	checkLog(t, l, 1, 6, false, texts("", "ab")) // no call of the log had an error yet
	checkErr(t, "Append", l.Append(nil), api.ErrCrash)
	checkLog(t, l, 1, 6, true, texts("", "ab"))
}

func TestAskingMakesNoCall(t *testing.T) {
	d := disk.Of(20)
	l := open(t, d)
	before, calls := image(t, d), d.Calls()
	d.Arm(0)
	for range 3 {
		checkLog(t, l, 1, 8, false, texts(""))
	}
	checkCounts(t, d, 0, calls, false)
	checkImage(t, d, before)
}

func TestBytesHandedInMayBeChanged(t *testing.T) {
	d := disk.Of(60)
	l := open(t, d)
	room := mixed(164)
	given := room[:100]
	for i, f := range []func([]byte) api.Errno{l.Append, l.Begin, l.Append} {
		before := slices.Clone(room)
		checkErr(t, "the call", f(given), 0)
		if !bytes.Equal(room, before) {
			t.Errorf("call %d changed what it was given", i)
		}
		want := l.Records()
		for j := range room {
			room[j]++
		}
		if !same(l.Records(), want) {
			t.Errorf("behind call %d a change of the bytes changes the log", i)
		}
		checkLog(t, open(t, d), l.Turn(), l.Room(), false, want)
		if last := want[len(want)-1]; !bytes.Equal(last, before[:100]) {
			t.Errorf("the record of call %d is %v", i, last)
		}
	}
}

func TestRecordsMayBeChanged(t *testing.T) {
	d := disk.Of(60)
	l := open(t, d)
	checkErr(t, "Begin", l.Begin([]byte("first")), 0)
	checkErr(t, "Append", l.Append([]byte("second")), 0)
	for _, l := range []*wal.Log{l, open(t, d)} {
		got, other := l.Records(), l.Records()
		for _, b := range got {
			for i := range b {
				b[i] = '?'
			}
			_ = append(b, "and more of it"...)
		}
		got[0], got[1] = nil, nil
		_ = append(got[:1], nil, nil)
		if !same(other, texts("first", "second")) {
			t.Errorf("two answers share memory: %q", other)
		}
		checkLog(t, l, 2, 25, false, texts("first", "second"))
	}
	checkErr(t, "Append", l.Append([]byte("third")), 0)
	checkLog(t, open(t, d), 2, 23, false, texts("first", "second", "third"))
}

// A list that was returned is not changed by what is appended or begun later.
func TestRecordsStayAsTheyWere(t *testing.T) {
	l := open(t, disk.Of(60))
	var lists [][][]byte
	for i := range 5 {
		lists = append(lists, l.Records())
		checkErr(t, "Append", l.Append([]byte{byte(i)}), 0)
	}
	checkErr(t, "Begin", l.Begin([]byte("x")), 0)
	for i, list := range lists {
		want := [][]byte{nil}
		for k := range i {
			want = append(want, []byte{byte(k)})
		}
		if !same(list, want) {
			t.Errorf("the list of %d records became %q", i+1, list)
		}
	}
}

func TestLogThatWasNotOpened(t *testing.T) {
	l := &wal.Log{}
	checkLog(t, l, 0, 0, false, nil)
	checkErr(t, "Append", l.Append(nil), api.ErrFull)
	checkErr(t, "Begin", l.Begin(nil), api.ErrFull)
	checkErr(t, "Append", l.Append(long()), api.ErrArgument)
	checkErr(t, "Begin", l.Begin(long()), api.ErrArgument)
}

// P6.3

// lengths are those at the edges of sectors.
func lengths() []int { return []int{0, 1, 2, 63, 64, 65, 127, 128, 129, 300} }

// written is the sectors of a frame, byte by byte.
func written(length [2]byte, number byte, check [4]byte, b []byte) []disk.Sector {
	list := []disk.Sector{{length[0], length[1], 0, 0, 0, number, check[0], check[1], check[2], check[3], 2, 0xc5}}
	for i, c := range b {
		if i%64 == 0 {
			list = append(list, disk.Sector{})
		}
		list[len(list)-1][i%64] = c
	}
	return list
}

func TestAppendOnTheDisk(t *testing.T) {
	zeros := make([]byte, 300)
	for _, c := range []struct {
		b      []byte
		length [2]byte
		check  [4]byte
	}{
		{nil, [2]byte{0, 0}, [4]byte{0, 0, 0, 0}},
		{[]byte{0}, [2]byte{0, 1}, [4]byte{0x52, 0x7d, 0x53, 0x51}},
		{[]byte{255}, [2]byte{0, 1}, [4]byte{0xff, 0, 0, 0}},
		{[]byte("123456789"), [2]byte{0, 9}, [4]byte{0xe3, 0x06, 0x92, 0x83}},
		{zeros[:32], [2]byte{0, 32}, [4]byte{0x8a, 0x91, 0x36, 0xaa}},
	} {
		d := disk.Of(20)
		l := open(t, d)
		want := image(t, d)
		for k := range 2 {
			checkErr(t, "Append", l.Append(c.b), 0)
			f := written(c.length, byte(k+1), c.check, c.b)
			copy(want[12+k*len(f):], f)
			checkImage(t, d, want)
			checkCounts(t, d, 0, d.Calls(), false)
		}
	}
}

func TestAppendOfLengthsOnTheDisk(t *testing.T) {
	for _, size := range []int{40, 41} {
		for _, n := range lengths() {
			d := disk.Of(size)
			l := open(t, d)
			for range 2 { // in both regions
				want := image(t, d)
				at := (size/2)*(l.Turn()%2) + 2
				for k := range 2 {
					b := mixed(n)
					calls := d.Calls()
					checkErr(t, "Append", l.Append(b), 0)
					check := library(b)
					f := written([2]byte{byte(n >> 8), byte(n)}, byte(k+1), [4]byte{byte(check >> 24), byte(check >> 16), byte(check >> 8), byte(check)}, b)
					copy(want[at:], f)
					at += len(f)
					checkImage(t, d, want)
					checkCounts(t, d, 0, calls+len(f)+2, false)
				}
				checkErr(t, "Begin", l.Begin(nil), 0)
			}
		}
	}
}

func TestAppendNumbersTheRecords(t *testing.T) {
	d := disk.Of(512)
	l := open(t, d)
	want := image(t, d)
	for k := range 254 {
		checkErr(t, "Append", l.Append(nil), 0)
		want[258+k] = head(0, uint32(k+1), 0, 2, 0xc5)
	}
	checkImage(t, d, want)
	checkLog(t, open(t, d), 1, 0, false, make([][]byte, 255))
	checkRefused(t, "Append", l, d, l.Append, nil, api.ErrFull)
}

func TestAppendUpToTheRoom(t *testing.T) {
	for _, size := range []int{8, 9, 20, 21, 512} {
		d := disk.Of(size)
		l := open(t, d)
		fits := 64 * (l.Room() - 1)
		checkRefused(t, "Append", l, d, l.Append, mixed(fits+1), api.ErrFull)
		checkRefused(t, "Append", l, d, l.Append, mixed(fits+64), api.ErrFull)
		checkErr(t, "Append", l.Append(mixed(fits)), 0)
		checkLog(t, l, 1, 0, false, [][]byte{nil, mixed(fits)})
		checkLog(t, open(t, d), 1, 0, false, [][]byte{nil, mixed(fits)})
		checkRefused(t, "Append", l, d, l.Append, nil, api.ErrFull)
		checkRefused(t, "Append", l, d, l.Append, mixed(1), api.ErrFull)
		checkErr(t, "Begin", l.Begin(nil), 0)
		checkErr(t, "Append", l.Append(mixed(fits)), 0) // there is room again
	}
}

func TestAppendInTheLastSectors(t *testing.T) {
	d := disk.Of(20)
	l := open(t, d)
	checkErr(t, "Append", l.Append(mixed(64*5)), 0)
	checkLog(t, l, 1, 2, false, [][]byte{nil, mixed(64 * 5)})
	checkRefused(t, "Append", l, d, l.Append, mixed(65), api.ErrFull)
	checkErr(t, "Append", l.Append(mixed(0)), 0)
	checkRefused(t, "Append", l, d, l.Append, mixed(1), api.ErrFull)
	checkErr(t, "Append", l.Append(mixed(0)), 0)
	checkRefused(t, "Append", l, d, l.Append, mixed(0), api.ErrFull)
	checkLog(t, open(t, d), 1, 0, false, [][]byte{nil, mixed(64 * 5), nil, nil})
}

func TestAppendOfTooManyBytes(t *testing.T) {
	for _, size := range []int{8, 20, 512} {
		d := disk.Of(size)
		l := open(t, d)
		checkRefused(t, "Append", l, d, l.Append, make([]byte, 16384), api.ErrFull)
		checkRefused(t, "Append", l, d, l.Append, long(), api.ErrArgument)
		checkRefused(t, "Append", l, d, l.Append, make([]byte, 65536), api.ErrArgument) // its length in two bytes is 0
		checkRefused(t, "Append", l, d, l.Append, make([]byte, 1<<20), api.ErrArgument)
		checkErr(t, "Append", l.Append(nil), 0)
	}
}

// broken is a log that is Broken, of a disk that is not down.
func broken(t *testing.T) (*wal.Log, *disk.Disk) {
	t.Helper()
	d := disk.Of(20)
	l := open(t, d)
	d.Fail(0)
	checkErr(t, "Append", l.Append([]byte("ab")), api.ErrDisk)
	checkLog(t, l, 1, 8, true, texts(""))
	return l, d
}

func TestErrorsInTheirOrder(t *testing.T) {
	l, d := broken(t)
	for _, b := range [][]byte{nil, mixed(1), mixed(16384), long()} { // ahead of ErrFull and ErrArgument
		checkRefused(t, "Append", l, d, l.Append, b, api.ErrOnly)
		checkRefused(t, "Begin", l, d, l.Begin, b, api.ErrOnly)
	}
	d = disk.Of(8)
	l = open(t, d)
	for range 2 { // ErrArgument ahead of ErrFull
		checkErr(t, "Append", l.Append(nil), 0)
		checkRefused(t, "Append", l, d, l.Append, long(), api.ErrArgument)
		checkRefused(t, "Begin", l, d, l.Begin, long(), api.ErrArgument)
	}
	checkRefused(t, "Append", l, d, l.Append, nil, api.ErrFull)
	d.Arm(0)
	d.Flush()
	checkRefused(t, "Append", l, d, l.Append, nil, api.ErrFull) // those ahead of the errors of the disk
	checkRefused(t, "Append", l, d, l.Append, long(), api.ErrArgument)
	checkRefused(t, "Begin", l, d, l.Begin, mixed(129), api.ErrFull)
	checkRefused(t, "Begin", l, d, l.Begin, long(), api.ErrArgument)
	checkErr(t, "Begin", l.Begin(nil), api.ErrCrash)
	checkRefused(t, "Append", l, d, l.Append, long(), api.ErrOnly)
}

// Once it is Broken a log stays so, also when its disk goes on.
func TestBrokenStays(t *testing.T) {
	l, d := broken(t)
	d.Restart(all, -1, 0)
	checkRefused(t, "Append", l, d, l.Append, nil, api.ErrOnly)
	checkRefused(t, "Begin", l, d, l.Begin, nil, api.ErrOnly)
	checkLog(t, l, 1, 8, true, texts(""))
	checkLog(t, open(t, d), 1, 8, false, texts("")) // a log that is opened anew is not
	checkRefused(t, "Append", l, d, l.Append, nil, api.ErrOnly)
}

func TestBrokenByADiskThatIsDown(t *testing.T) {
	for _, n := range []int{0, 1, 100} {
		for k := range 2 {
			d := disk.Of(20)
			l := open(t, d)
			d.Arm(0)
			d.Flush()
			calls := d.Calls()
			checkErr(t, "the call", []func([]byte) api.Errno{l.Append, l.Begin}[k](mixed(n)), api.ErrCrash)
			checkCounts(t, d, 0, calls, true)
			checkLog(t, l, 1, 8, true, texts(""))
		}
	}
}
