package wal

import (
	"terrier/api"
	"terrier/disk"
	"terrier/sum"
)

// What a head tells of its frame, and the byte by which a head is known.
const (
	kindRegion = 1
	kindRecord = 2
	mark       = 0xc5
)

// headOf is the head of the frame of b. The mark is the last byte that is not 0, so that a head of which only a part was written over zeros is none.
func headOf(kind byte, number int, b []byte) disk.Sector {
	var s disk.Sector
	putNumber(s[0:2], uint32(len(b)))
	putNumber(s[2:6], uint32(number))
	putNumber(s[6:10], sum.Check(b))
	s[10] = kind
	s[11] = mark
	return s
}

// putNumber fills all of the bytes, the most significant one first.
func putNumber(to []byte, n uint32) {
	for i := len(to) - 1; i >= 0; i-- {
		to[i] = byte(n)
		n >>= 8
	}
}

// numberIn is what putNumber filled in.
func numberIn(from []byte) int {
	n := 0
	for _, c := range from {
		n = n<<8 | int(c)
	}
	return n
}

// turnIn is the turn of a region, or 0 if its region frame does not exist.
func turnIn(region []disk.Sector) int {
	head := region[0]
	turn := numberIn(head[2:6])
	if head != headOf(kindRegion, turn, nil) {
		return 0
	}
	return turn
}

// recordIn is the bytes of the record with a number, if its frame exists at that sector of the region.
func recordIn(region []disk.Sector, at, number int) ([]byte, bool) {
	if at >= len(region) {
		return nil, false
	}
	head := region[at]
	n := numberIn(head[0:2])
	if n > api.MaxRecord || Sectors(n) > len(region)-at {
		return nil, false
	}
	b := joined(region[at+1:], n)
	if head != headOf(kindRecord, number, b) {
		return nil, false
	}
	return b, true
}

// recordsIn is all records of a region, and the sector behind the last one.
func recordsIn(region []disk.Sector) ([][]byte, int) {
	var records [][]byte
	at := 1
	for {
		b, ok := recordIn(region, at, len(records))
		if !ok {
			return records, at
		}
		records = append(records, b)
		at += Sectors(len(b))
	}
}

// joined is the first n bytes of sectors.
func joined(sectors []disk.Sector, n int) []byte {
	b := make([]byte, 0, n)
	for i := 0; len(b) < n; i++ {
		s := sectors[i]
		b = append(b, s[:min(n-len(b), api.Sector)]...)
	}
	return b
}

// writeFrame has the bytes be kept ahead of the head, so that there is never a head without its bytes.
func writeFrame(d *disk.Disk, at int, kind byte, number int, b []byte) api.Errno {
	for i := 0; i*api.Sector < len(b); i++ {
		var s disk.Sector
		copy(s[:], b[i*api.Sector:])
		if err := d.Write(at+1+i, s); err != 0 {
			return err
		}
	}
	if err := d.Flush(); err != 0 {
		return err
	}
	if err := d.Write(at, headOf(kind, number, b)); err != 0 {
		return err
	}
	return d.Flush()
}

// writeZeros fills the sectors from one up to another, which is left as it is.
func writeZeros(d *disk.Disk, from, to int) api.Errno {
	for at := from; at < to; at++ {
		if err := d.Write(at, disk.Sector{}); err != 0 {
			return err
		}
	}
	return d.Flush()
}

// readRegion is so many sectors of a disk, from one on.
func readRegion(d *disk.Disk, from, size int) ([]disk.Sector, api.Errno) {
	region := make([]disk.Sector, size)
	for i := range region {
		s, err := d.Read(from + i)
		if err != 0 {
			return nil, err
		}
		region[i] = s
	}
	return region, 0
}
