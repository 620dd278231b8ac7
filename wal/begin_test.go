package wal_test

import (
	"slices"
	"testing"

	"terrier/api"
	"terrier/disk"
)

// P6.4

func TestBeginOnTheDisk(t *testing.T) {
	for _, size := range []int{40, 41} {
		half := size / 2
		for _, n := range lengths() {
			d := disk.Of(size)
			l := open(t, d)
			want := image(t, d)
			for turn := 2; turn < 6; turn++ {
				calls := d.Calls()
				checkErr(t, "Begin", l.Begin(mixed(n)), 0)
				first := half * (turn % 2)
				check := library(mixed(n))
				clear(want[first : first+half])
				want[first] = disk.Sector{0, 0, 0, 0, 0, byte(turn), 0, 0, 0, 0, 1, 0xc5}
				f := written([2]byte{byte(n >> 8), byte(n)}, 0, [4]byte{byte(check >> 24), byte(check >> 16), byte(check >> 8), byte(check)}, mixed(n))
				copy(want[first+1:], f)
				checkImage(t, d, want)
				checkCounts(t, d, 0, calls+half+1+len(f)+2+3, false)
				checkLog(t, l, turn, half-1-len(f), false, [][]byte{mixed(n)})
				checkLog(t, open(t, d), turn, half-1-len(f), false, [][]byte{mixed(n)})
			}
		}
	}
}

// The turn stands in four bytes.
func TestBeginOnTheDiskWithGreatTurns(t *testing.T) {
	for _, c := range []struct {
		turn int
		want [4]byte
	}{
		{0xfe, [4]byte{0, 0, 0, 0xff}}, {0xff, [4]byte{0, 0, 1, 0}}, {0xffff, [4]byte{0, 1, 0, 0}}, {0xffffff, [4]byte{1, 0, 0, 0}},
		{0x01020303, [4]byte{1, 2, 3, 4}}, {1<<31 - 2, [4]byte{0x7f, 0xff, 0xff, 0xff}}, {1<<31 - 1, [4]byte{0x80, 0, 0, 0}},
	} {
		d := regions(t, 4, region(c.turn, nil), nil)
		l := open(t, d)
		checkErr(t, "Begin", l.Begin(nil), 0)
		checkLog(t, l, c.turn+1, 2, false, texts(""))
		checkLog(t, open(t, d), c.turn+1, 2, false, texts(""))
		want := c.want
		if s, err := d.Read(4); err != 0 || s != (disk.Sector{0, 0, want[0], want[1], want[2], want[3], 0, 0, 0, 0, 1, 0xc5}) {
			t.Errorf("the turn %d has the head % x", c.turn+1, s)
		}
	}
}

// Whatever stands in the other region is gone, in the current one nothing is changed, and the last sector of an odd number stays.
func TestBeginWritesZerosToTheOtherRegion(t *testing.T) {
	for _, size := range []int{20, 21} {
		for _, first := range []int{0, 10} {
			want := slices.Repeat([]disk.Sector{full(6)}, size)
			copy(want[first:], region(5, []byte("x"), []byte("y")))
			d := diskOf(t, want)
			l := open(t, d)
			want = image(t, d)
			checkErr(t, "Begin", l.Begin([]byte("z")), 0)
			clear(want[10-first : 20-first])
			copy(want[10-first:], region(6, []byte("z")))
			checkImage(t, d, want)
			d.Restart(0, -1, 0)
			checkImage(t, d, want)
		}
	}
}

func TestBeginUpToTheRegion(t *testing.T) {
	for _, size := range []int{8, 9, 20, 21, 512} {
		d := disk.Of(size)
		l := open(t, d)
		fits := 64 * (size/2 - 2)
		for turn := 2; turn < 5; turn++ {
			checkRefused(t, "Begin", l, d, l.Begin, mixed(fits+1), api.ErrFull)
			checkRefused(t, "Begin", l, d, l.Begin, mixed(fits+64), api.ErrFull)
			checkErr(t, "Begin", l.Begin(mixed(fits)), 0)
			checkLog(t, l, turn, 0, false, [][]byte{mixed(fits)})
			checkLog(t, open(t, d), turn, 0, false, [][]byte{mixed(fits)})
			checkRefused(t, "Append", l, d, l.Append, nil, api.ErrFull)
		}
		checkErr(t, "Begin", l.Begin(mixed(fits-64)), 0)
		checkErr(t, "Append", l.Append(nil), 0)
		checkLog(t, open(t, d), 5, 0, false, [][]byte{mixed(fits - 64), nil})
	}
}

// No region has 257 sectors, so that the longest record that may be is refused as well.
func TestBeginOfTooManyBytes(t *testing.T) {
	for _, size := range []int{8, 20, 512} {
		d := disk.Of(size)
		l := open(t, d)
		checkRefused(t, "Begin", l, d, l.Begin, make([]byte, 16384), api.ErrFull)
		checkRefused(t, "Begin", l, d, l.Begin, long(), api.ErrArgument)
		checkRefused(t, "Begin", l, d, l.Begin, make([]byte, 65536), api.ErrArgument)
		checkErr(t, "Begin", l.Begin(nil), 0)
	}
}

// The room of the current region does not matter.
func TestBeginBehindAFullRegion(t *testing.T) {
	d := disk.Of(8)
	l := open(t, d)
	for turn := 2; turn < 300; turn++ {
		checkErr(t, "Append", l.Append(mixed(l.Room()*64-64)), 0)
		checkRefused(t, "Append", l, d, l.Append, nil, api.ErrFull)
		checkErr(t, "Begin", l.Begin([]byte{byte(turn)}), 0)
		checkLog(t, l, turn, 1, false, [][]byte{{byte(turn)}})
	}
	checkLog(t, open(t, d), 299, 1, false, [][]byte{{299 - 256}})
}
