package wal_test

import (
	"math"
	"math/rand"
	"slices"
	"testing"

	"terrier/api"
	"terrier/disk"
	"terrier/wal"
)

// P6.1

func TestSectors(t *testing.T) {
	for _, c := range []struct{ n, want int }{
		{0, 1}, {1, 2}, {2, 2}, {63, 2}, {64, 2}, {65, 3}, {127, 3}, {128, 3}, {129, 4}, {300, 6},
		{16256, 255}, {16257, 256}, {16320, 256}, {16383, 257}, {16384, 257}, {16385, 258}, {65535, 1025},
		{1 << 40, 1<<34 + 1}, {math.MaxInt - 63, 1 << 57}, {math.MaxInt, 1<<57 + 1},
	} {
		if got := wal.Sectors(c.n); got != c.want {
			t.Errorf("Sectors(%d) = %d, want %d", c.n, got, c.want)
		}
	}
	for n := range 2000 {
		if got := wal.Sectors(n); got != len(recordFrame(0, make([]byte, n))) {
			t.Fatalf("Sectors(%d) = %d", n, got)
		}
	}
}

func TestOpenOfASmallDisk(t *testing.T) {
	for size := -1; size < 8; size++ {
		d := disk.Of(size)
		checkNoLog(t, d, api.ErrArgument)
		checkCounts(t, d, 0, 0, false)
		d.Arm(0)
		d.Flush()
		checkNoLog(t, d, api.ErrArgument) // also if the disk is down: this error is named first
		checkCounts(t, d, 0, 1, true)
	}
	checkNoLog(t, &disk.Disk{}, api.ErrArgument)
}

func TestOpenOfADiskThatIsDown(t *testing.T) {
	for _, size := range []int{8, 9, 20, 512} {
		d := disk.Of(size)
		open(t, d)
		calls := d.Calls()
		d.Arm(0)
		d.Flush()
		checkNoLog(t, d, api.ErrCrash)
		checkCounts(t, d, 0, calls+1, true)
		d.Restart(0, -1, 0)
		checkLog(t, open(t, d), 1, size/2-2, false, texts(""))
	}
}

func TestOpenOfADiskOfZeros(t *testing.T) {
	for _, size := range []int{8, 9, 10, 11, 20, 21, 511, 512, 513} {
		d := disk.Of(size)
		l := open(t, d)
		half := d.Size() / 2
		checkLog(t, l, 1, half-2, false, texts(""))
		want := make([]disk.Sector, d.Size())
		want[half] = disk.Sector{0, 0, 0, 0, 0, 1, 0, 0, 0, 0, 1, 0xc5}
		want[half+1] = disk.Sector{0, 0, 0, 0, 0, 0, 0, 0, 0, 0, 2, 0xc5}
		checkImage(t, d, want)
		checkCounts(t, d, 0, half+7, false)
	}
}

// Where there is no region frame, whatever stands in the first region stays there, and so does the last sector of an odd number of them.
func TestOpenOfADiskOfOtherBytes(t *testing.T) {
	for _, size := range []int{8, 9, 20, 21} {
		for _, s := range []disk.Sector{full(255), full(0xc5), full(1), {0, 0, 0, 0, 0, 1}} {
			d := diskOf(t, slices.Repeat([]disk.Sector{s}, size))
			checkLog(t, open(t, d), 1, size/2-2, false, texts(""))
			want := slices.Repeat([]disk.Sector{s}, size)
			clear(want[size/2 : 2*(size/2)])
			copy(want[size/2:], region(1, nil))
			checkImage(t, d, want)
		}
	}
}

func TestOpenOfALogWithRecords(t *testing.T) {
	for _, size := range []int{40, 41} {
		d := disk.Of(size)
		l := open(t, d)
		want := [][]byte{nil}
		room := 18
		for round := range 3 {
			checkLog(t, open(t, d), 1+round, room, false, want)
			for _, n := range []int{0, 1, 65, 64} {
				checkErr(t, "Append", l.Append(mixed(n)), 0)
				want, room = append(want, mixed(n)), room-wal.Sectors(n)
				checkLog(t, open(t, d), 1+round, room, false, want)
			}
			checkErr(t, "Begin", l.Begin(mixed(300)), 0)
			want, room = [][]byte{mixed(300)}, 13
		}
		checkLog(t, open(t, d), 4, 13, false, want)
	}
}

// Whichever region it is, zeros are written from the last record up to its end, and nowhere else.
func TestOpenWritesZerosBehindTheLastRecord(t *testing.T) {
	records := [][]byte{mixed(65), nil, mixed(64)}
	for _, size := range []int{16, 17, 24, 25} {
		for _, first := range []int{0, size / 2} {
			for have := 1; have <= 3; have++ {
				want := slices.Repeat([]disk.Sector{full(9)}, size)
				copy(want[first:], region(5, records[:have]...))
				d := diskOf(t, want)
				calls := d.Calls()
				end := len(region(5, records[:have]...))
				checkLog(t, open(t, d), 5, size/2-end, false, records[:have])
				clear(want[first+end : first+size/2])
				checkImage(t, d, want)
				checkCounts(t, d, 0, calls+size/2-end+1, false)
				d.Restart(0, -1, 0) // they are flushed
				checkImage(t, d, want)
			}
		}
	}
}

func TestOpenOfAFullRegionFlushesOnly(t *testing.T) {
	d := regions(t, 4, region(3, mixed(128)), nil)
	calls := d.Calls()
	checkLog(t, open(t, d), 3, 0, false, [][]byte{mixed(128)})
	checkCounts(t, d, 0, calls+1, false)
	if err := d.Write(7, full(4)); err != 0 {
		t.Fatal(err)
	}
	open(t, d)
	checkCounts(t, d, 0, calls+3, false)
}

// A frame that is whole, but stands behind one that is not, or has a number that is not the next one, is no record.
func TestOpenClearsFramesThatAreNoRecords(t *testing.T) {
	rest := map[string][]disk.Sector{
		"a gap":             append([]disk.Sector{{}}, recordFrame(1, mixed(5))...),
		"the same number":   recordFrame(0, mixed(5)),
		"a number left out": recordFrame(2, mixed(5)),
		"a region frame":    regionFrame(1),
		"a part of a frame": recordFrame(1, mixed(70))[:2],
		"bytes without a head, and one more": append([]disk.Sector{{}, full(7)},
			recordFrame(1, nil)...),
	}
	for name, sectors := range rest {
		for _, first := range []int{0, 10} {
			want := make([]disk.Sector, 20)
			copy(want[first:], region(2, []byte("x")))
			start := slices.Clone(want)
			copy(start[first+3:], sectors)
			d := diskOf(t, start)
			checkLog(t, open(t, d), 2, 7, false, texts("x"))
			checkImage(t, d, want)
			if t.Failed() {
				t.Fatal(name)
			}
		}
	}
}

func TestOpenBeginsWhereThereIsNoRecord(t *testing.T) {
	for _, size := range []int{8, 9, 20} {
		half := size / 2
		for _, rest := range []disk.Sector{{}, full(3), recordFrame(1, nil)[0], recordFrame(0, mixed(1))[0]} {
			for _, first := range []int{0, half} {
				start := make([]disk.Sector, size)
				copy(start[first:], append(regionFrame(7), rest))
				other := half - first
				copy(start[other:], region(6, []byte("older"))) // it is not taken instead: the log is begun in it
				d := diskOf(t, start)
				calls := d.Calls()
				checkLog(t, open(t, d), 8, half-2, false, texts(""))
				want := slices.Clone(start)
				clear(want[other : other+half])
				copy(want[other:], region(8, nil))
				checkImage(t, d, want)
				checkCounts(t, d, 0, calls+half+7, false)
				checkLog(t, open(t, d), 8, half-2, false, texts(""))
			}
		}
	}
}

func TestOpenTakesTheGreaterTurn(t *testing.T) {
	for _, c := range []struct{ first, second, want int }{
		{1, 2, 2}, {2, 1, 1}, {9, 10, 2}, {10, 9, 1}, {255, 256, 2}, {256, 255, 1}, {65535, 65536, 2}, {65536, 65535, 1},
		{0x01000000, 0x00ffffff, 1}, {0x00ffffff, 0x01000000, 2}, {1 << 31, 1<<31 - 1, 1}, {1<<31 - 1, 1 << 31, 2}, {1, 1 << 31, 2}, {1 << 31, 1, 1},
		{1, 1, 1}, {2, 2, 1}, {1 << 31, 1 << 31, 1}, {0, 1, 2}, {1, 0, 1},
	} {
		d := regions(t, 8, region(c.first, []byte("one"), []byte("I")), region(c.second, []byte("two")))
		l := open(t, d)
		if c.want == 1 {
			checkLog(t, l, c.first, 3, false, texts("one", "I"))
		} else {
			checkLog(t, l, c.second, 5, false, texts("two"))
		}
		checkErr(t, "Append", l.Append([]byte("more")), 0)
		checkErr(t, "Begin", l.Begin([]byte("next")), 0)
		checkLog(t, open(t, d), max(c.first, c.second)+1, 5, false, texts("next"))
	}
}

// A turn is at least 1: with the number 0 it is no region frame.
func TestOpenOfATurnOfZero(t *testing.T) {
	for _, d := range []*disk.Disk{
		regions(t, 8, region(0, []byte("one")), nil),
		regions(t, 8, nil, region(0, []byte("two"))),
		regions(t, 8, region(0, []byte("one")), region(0, []byte("two"))),
	} {
		before := image(t, d)
		checkLog(t, open(t, d), 1, 6, false, texts(""))
		checkImage(t, d, append(append(before[:8:8], region(1, nil)...), make([]disk.Sector, 6)...))
	}
}

func TestOpenBeyondTheGreatestTurnEnds(t *testing.T) {
	for _, turn := range []int{1<<31 + 1, 1<<32 - 2, 1<<32 - 1} {
		d := regions(t, 8, region(turn, []byte("one")), region(1, []byte("two")))
		if l, err := wal.Open(d); l != nil && err == 0 { // nothing is promised but that it ends
			l.Append(nil)
			l.Begin(nil)
			l.Begin(nil)
		}
		wal.Open(d)
	}
}

// changed is a sector with another bit.
func changed(s disk.Sector, bit int) disk.Sector {
	s[bit/8] ^= 1 << (bit % 8)
	return s
}

func TestOpenOfARegionFrameWithAnotherBit(t *testing.T) {
	for _, turn := range []int{1, 2, 0x00a0b0c0} {
		for bit := range 512 {
			d := regions(t, 6, region(turn, []byte("x")), nil)
			other := changed(regionFrame(turn)[0], bit)
			put(t, d, 0, other)
			told := modelTurn(other[:])
			switch {
			case bit == 23: // the turn is greater than 2^31
			case bit/8 >= 2 && bit/8 < 6 && told > 0:
				checkLog(t, open(t, d), told, 3, false, texts("x"))
			default:
				checkLog(t, open(t, d), 1, 4, false, texts(""))
			}
			if t.Failed() {
				t.Fatalf("bit %d of the turn %d", bit, turn)
			}
		}
	}
}

func TestOpenOfARegionFrameWithBytes(t *testing.T) {
	for _, n := range []int{1, 64, 65} {
		sectors := append(frame(1, 9, mixed(n)), recordFrame(0, []byte("x"))...)
		checkLog(t, open(t, regions(t, 8, sectors, nil)), 1, 6, false, texts(""))
		checkLog(t, open(t, regions(t, 8, sectors, region(3, []byte("y")))), 3, 5, false, texts("y"))
	}
	for _, s := range []disk.Sector{
		head(0, 9, 0, 1, 0), head(0, 9, 0, 1, 0xc4), head(0, 9, 0, 2, 0xc5), head(0, 9, 0, 0, 0xc5), head(0, 9, 0, 3, 0xc5),
		head(0, 9, 1, 1, 0xc5), head(1, 9, 0, 1, 0xc5), head(65535, 9, 0, 1, 0xc5),
	} {
		d := regions(t, 8, append([]disk.Sector{s}, recordFrame(0, []byte("x"))...), region(3, []byte("y")))
		checkLog(t, open(t, d), 3, 5, false, texts("y"))
	}
}

func TestOpenOfARecordWithAnotherBit(t *testing.T) {
	for _, n := range []int{0, 1, 64, 65} {
		whole := region(4, []byte("x"), mixed(n), []byte("z"))
		at := len(region(4, []byte("x")))
		for bit := range 512 * wal.Sectors(n) {
			d := regions(t, 12, nil, whole)
			put(t, d, 12+at+bit/512, changed(whole[at+bit/512], bit%512))
			if bit >= 512+8*n { // behind its last byte nothing is examined
				checkLog(t, open(t, d), 4, 12-len(whole), false, [][]byte{[]byte("x"), mixed(n), []byte("z")})
			} else {
				checkLog(t, open(t, d), 4, 12-at, false, texts("x"))
			}
			if t.Failed() {
				t.Fatalf("bit %d of a record of %d bytes", bit, n)
			}
		}
	}
}

func TestOpenOfARecordWithAnotherHead(t *testing.T) {
	b := []byte("yes")
	check := library(b)
	for _, s := range []disk.Sector{
		head(3, 1, check+1, 2, 0xc5), head(3, 1, 0, 2, 0xc5), head(3, 1, library([]byte("no!")), 2, 0xc5),
		head(3, 1, check, 1, 0xc5), head(3, 1, check, 0, 0xc5), head(3, 1, check, 3, 0xc5), head(3, 1, check, 0xc5, 2),
		head(3, 0, check, 2, 0xc5), head(3, 2, check, 2, 0xc5), head(3, 1<<24, check, 2, 0xc5), head(3, 1<<31+1, check, 2, 0xc5),
		head(2, 1, check, 2, 0xc5), head(4, 1, check, 2, 0xc5), head(0, 1, check, 2, 0xc5), head(3*256, 1, check, 2, 0xc5), head(65535, 1, check, 2, 0xc5),
		head(3, 1, check, 2, 0), head(3, 1, check, 2, 0x5c), head(3, 1, check, 2, 0xc4), head(3, 1, check, 2, 255),
		{},
	} {
		d := regions(t, 12, region(4, []byte("x"), b, []byte("z")), nil)
		checkLog(t, open(t, d), 4, 5, false, texts("x", "yes", "z"))
		put(t, d, 3, s)
		checkLog(t, open(t, d), 4, 9, false, texts("x"))
	}
	for n := range 4 { // another length is one of another record, if its sum is that of fewer bytes
		d := regions(t, 12, region(4, []byte("x"), b, []byte("z")), nil)
		put(t, d, 3, head(n, 1, library(b[:n]), 2, 0xc5))
		want := texts("x", string(b[:n]), "z")
		room := 5
		if n == 0 {
			want, room = want[:2], 8 // the sector with the bytes is no head
		}
		checkLog(t, open(t, d), 4, room, false, want)
	}
}

// A frame that ends with its region exists, and one that would end a sector later does not, though the sectors behind have its bytes.
func TestOpenOfAFrameThatLeavesItsRegion(t *testing.T) {
	for _, c := range []struct{ n, room int }{{192, 0}, {193, 4}, {256, 4}, {257, 4}} {
		b := mixed(c.n)
		want := [][]byte{nil, b}
		if c.room > 0 {
			want = want[:1]
		}
		sectors := region(2, nil, b)
		d := disk.Of(12)
		put(t, d, 0, sectors...)
		checkLog(t, open(t, d), 2, c.room, false, want)

		d = disk.Of(13)
		put(t, d, 6, sectors[:min(len(sectors), 7)]...)
		checkLog(t, open(t, d), 2, c.room, false, want)

		d = disk.Of(12)
		put(t, d, 6, sectors[:6]...)
		checkLog(t, open(t, d), 2, c.room, false, want)
	}
}

func TestOpenOfLengthsThatNoRegionHas(t *testing.T) {
	for _, size := range []int{8, 20, 512} {
		for _, n := range []int{16321, 16384, 16385, 32767, 32768, 65535} {
			for _, first := range []int{0, size / 2} {
				d := disk.Of(size)
				put(t, d, first, append(region(2, []byte("x"))[:3:3], head(n, 1, library(make([]byte, n)), 2, 0xc5))...)
				checkLog(t, open(t, d), 2, size/2-3, false, texts("x"))
			}
		}
	}
}

// The longest record that a region can have is shorter than api.MaxRecord.
func TestOpenOfTheLongestRecord(t *testing.T) {
	for _, first := range []int{0, 256} {
		d := disk.Of(512)
		put(t, d, first, region(2, mixed(254*64))...)
		checkLog(t, open(t, d), 2, 0, false, [][]byte{mixed(254 * 64)})
	}
}

func TestOpenOfManyRecords(t *testing.T) {
	d := disk.Of(512)
	records := make([][]byte, 255)
	put(t, d, 256, region(2, records...)...)
	checkLog(t, open(t, d), 2, 0, false, records)
}

// A log that is opened twice is the same both times, and nothing more than the zeros is written the second time.
func TestOpenAgain(t *testing.T) {
	d := regions(t, 8, region(3, []byte("x"), []byte("y")), slices.Repeat([]disk.Sector{full(8)}, 8))
	checkLog(t, open(t, d), 3, 3, false, texts("x", "y"))
	before := image(t, d)
	checkLog(t, open(t, d), 3, 3, false, texts("x", "y"))
	checkImage(t, d, before)
}

// spoilt is a log of chance, with some bits and sectors of it changed by chance.
func spoilt(r *rand.Rand) []disk.Sector {
	size := 8 + r.Intn(30)
	list := make([]disk.Sector, size)
	for _, first := range []int{0, size / 2} {
		records := make([][]byte, r.Intn(5))
		for i := range records {
			records[i] = mixed(r.Intn(150))
		}
		copy(list[first:], region(r.Intn(4), records...))
	}
	for range r.Intn(4) {
		at := r.Intn(size)
		switch r.Intn(4) {
		case 0:
			list[at] = full(byte(r.Intn(256)))
		case 1:
			list[at] = list[r.Intn(size)]
		case 2:
			list[at] = changed(list[at], r.Intn(512))
		default:
			list[at] = changed(list[at], r.Intn(96))
		}
	}
	return list
}

func TestOpenIsLikeTheModel(t *testing.T) {
	for seed := range int64(4000) {
		r := rand.New(rand.NewSource(seed))
		sectors := spoilt(r)
		d, twin := diskOf(t, sectors), diskOf(t, sectors)
		l, err := wal.Open(d)
		m, want := modelOpen(twin)
		if err != want || l == nil {
			t.Fatalf("with the seed %d Open = %d, want %d", seed, err, want)
		}
		if m.turn > 1<<31 {
			continue
		}
		checkLike(t, l, d, m)
		if t.Failed() {
			t.Fatalf("with the seed %d", seed)
		}
	}
}
