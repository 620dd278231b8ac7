package wal_test

import (
	"bytes"
	"encoding/binary"
	"hash/crc32"
	"math"
	"slices"
	"testing"

	"terrier/api"
	"terrier/disk"
	"terrier/wal"
)

const all = math.MaxUint64

// library is the sum of 32 bits as the Go library has it.
func library(b []byte) uint32 { return crc32.Checksum(b, crc32.MakeTable(crc32.Castagnoli)) }

// head is a head, field by field, so that any of them can be wrong.
func head(length int, number, check uint32, kind, last byte) disk.Sector {
	var s disk.Sector
	binary.BigEndian.PutUint16(s[0:], uint16(length))
	binary.BigEndian.PutUint32(s[2:], number)
	binary.BigEndian.PutUint32(s[6:], check)
	s[10], s[11] = kind, last
	return s
}

// frame is the head of b, and the sectors of its bytes.
func frame(kind byte, number int, b []byte) []disk.Sector {
	list := []disk.Sector{head(len(b), uint32(number), library(b), kind, 0xc5)}
	for part := range slices.Chunk(b, 64) {
		var s disk.Sector
		copy(s[:], part)
		list = append(list, s)
	}
	return list
}

func regionFrame(turn int) []disk.Sector { return frame(1, turn, nil) }

func recordFrame(number int, b []byte) []disk.Sector { return frame(2, number, b) }

// region is the sectors of a region up to its last record.
func region(turn int, records ...[]byte) []disk.Sector {
	list := regionFrame(turn)
	for i, b := range records {
		list = append(list, recordFrame(i, b)...)
	}
	return list
}

// call is a counted call of a disk.
type call struct {
	flush bool
	at    int
	data  disk.Sector
}

func zeroCalls(from, to int) []call {
	var list []call
	for at := from; at < to; at++ {
		list = append(list, call{at: at})
	}
	return append(list, call{flush: true})
}

func frameCalls(at int, f []disk.Sector) []call {
	var list []call
	for i := 1; i < len(f); i++ {
		list = append(list, call{at: at + i, data: f[i]})
	}
	return append(list, call{flush: true}, call{at: at, data: f[0]}, call{flush: true})
}

// play makes calls until one has an error.
func play(d *disk.Disk, calls []call) api.Errno {
	for _, c := range calls {
		err := api.Errno(0)
		if c.flush {
			err = d.Flush()
		} else {
			err = d.Write(c.at, c.data)
		}
		if err != 0 {
			return err
		}
	}
	return 0
}

// model is a log that lists the calls it has to make ahead of making them.
type model struct {
	d           *disk.Disk
	size, first int
	turn, room  int
	records     [][]byte
	broken      bool
}

// modelRecord is the length of the record with that number at the begin of some bytes, and whether there is one.
func modelRecord(b []byte, number int) (int, bool) {
	if len(b) == 0 {
		return 0, false
	}
	n := int(b[0])*256 + int(b[1])
	if n > 16384 || 64+n > len(b) || binary.BigEndian.Uint32(b[2:]) != uint32(number) {
		return 0, false
	}
	whole := binary.BigEndian.Uint32(b[6:]) == library(b[64:64+n]) && b[10] == 2 && b[11] == 0xc5
	return n, whole && bytes.Count(b[12:64], []byte{0}) == 52
}

func modelTurn(b []byte) int {
	if b[0]|b[1]|b[6]|b[7]|b[8]|b[9] != 0 || b[10] != 1 || b[11] != 0xc5 || bytes.Count(b[12:64], []byte{0}) != 52 {
		return 0
	}
	return int(binary.BigEndian.Uint32(b[2:]))
}

// take reads a region, and takes it over if its turn is greater.
func (m *model) take(first int) {
	var b []byte
	for at := first; at < first+m.size; at++ {
		s, _ := m.d.Read(at)
		b = append(b, s[:]...)
	}
	turn := modelTurn(b)
	if turn <= m.turn {
		return
	}
	m.first, m.turn, m.records = first, turn, nil
	b = b[64:]
	for {
		n, ok := modelRecord(b, len(m.records))
		if !ok {
			break
		}
		m.records = append(m.records, slices.Clone(b[64:64+n]))
		b = b[64+(n+63)/64*64:]
	}
	m.room = len(b) / 64
}

func modelOpen(d *disk.Disk) (*model, api.Errno) {
	m := &model{d: d, size: d.Size() / 2}
	if d.Size() < 8 {
		return nil, api.ErrArgument
	}
	if d.Down() {
		return nil, api.ErrCrash
	}
	m.take(0)
	m.take(m.size)
	err := api.Errno(0)
	if len(m.records) > 0 {
		err = play(d, zeroCalls(m.first+m.size-m.room, m.first+m.size))
	} else {
		err = m.begin(nil)
	}
	if err != 0 {
		return nil, err
	}
	return m, 0
}

func (m *model) refuses(n, room int) api.Errno {
	switch {
	case m.broken:
		return api.ErrOnly
	case n > 16384:
		return api.ErrArgument
	case n > 64*(room-1):
		return api.ErrFull
	}
	return 0
}

func (m *model) append(b []byte) api.Errno {
	if err := m.refuses(len(b), m.room); err != 0 {
		return err
	}
	f := recordFrame(len(m.records), b)
	if err := play(m.d, frameCalls(m.first+m.size-m.room, f)); err != 0 {
		m.broken = true
		return err
	}
	m.records = append(m.records, slices.Clone(b))
	m.room -= len(f)
	return 0
}

// beginCalls is what Begin does in a region.
func beginCalls(first, size, turn int, b []byte) []call {
	list := zeroCalls(first, first+size)
	list = append(list, frameCalls(first+1, recordFrame(0, b))...)
	return append(list, frameCalls(first, regionFrame(turn))...)
}

func (m *model) begin(b []byte) api.Errno {
	if err := m.refuses(len(b), m.size-1); err != 0 {
		return err
	}
	first := 0
	if m.first == 0 {
		first = m.size
	}
	if err := play(m.d, beginCalls(first, m.size, m.turn+1, b)); err != 0 {
		m.broken = true
		return err
	}
	m.first, m.turn, m.records = first, m.turn+1, [][]byte{slices.Clone(b)}
	m.room = m.size - 1 - len(recordFrame(0, b))
	return 0
}

// image is all sectors, as they are read.
func image(t *testing.T, d *disk.Disk) []disk.Sector {
	t.Helper()
	list := make([]disk.Sector, d.Size())
	for at := range list {
		s, err := d.Read(at)
		if err != 0 {
			t.Fatalf("Read(%d): %d", at, err)
		}
		list[at] = s
	}
	return list
}

// diskOf is a disk with these sectors, all of them kept.
func diskOf(t *testing.T, sectors []disk.Sector) *disk.Disk {
	t.Helper()
	d := disk.Of(len(sectors))
	put(t, d, 0, sectors...)
	return d
}

// put writes sectors, from one on, and flushes.
func put(t *testing.T, d *disk.Disk, at int, sectors ...disk.Sector) {
	t.Helper()
	for i, s := range sectors {
		if err := d.Write(at+i, s); err != 0 {
			t.Fatalf("Write(%d): %d", at+i, err)
		}
	}
	if err := d.Flush(); err != 0 {
		t.Fatalf("Flush: %d", err)
	}
}

// regions is a disk with two regions of a size, of the sectors that are given, zeros behind them.
func regions(t *testing.T, size int, first, second []disk.Sector) *disk.Disk {
	t.Helper()
	d := disk.Of(2 * size)
	put(t, d, 0, first...)
	put(t, d, size, second...)
	return d
}

// mixed is bytes that differ, the same ones at every run.
func mixed(n int) []byte {
	b := make([]byte, n)
	state := uint32(n) + 77
	for i := range b {
		state = state*1664525 + 1013904223
		b[i] = byte(state >> 24)
	}
	return b
}

// full is a sector of one byte only.
func full(c byte) disk.Sector {
	var s disk.Sector
	for i := range s {
		s[i] = c
	}
	return s
}

// texts is records of these texts.
func texts(list ...string) [][]byte {
	var records [][]byte
	for _, s := range list {
		records = append(records, []byte(s))
	}
	return records
}

func same(a, b [][]byte) bool { return slices.EqualFunc(a, b, bytes.Equal) }

func open(t *testing.T, d *disk.Disk) *wal.Log {
	t.Helper()
	l, err := wal.Open(d)
	if l == nil || err != 0 {
		t.Fatalf("Open = %v, %d", l, err)
	}
	return l
}

func checkNoLog(t *testing.T, d *disk.Disk, want api.Errno) {
	t.Helper()
	if l, err := wal.Open(d); l != nil || err != want {
		t.Errorf("Open = %v, %d; want no log, %d", l, err, want)
	}
}

func checkErr(t *testing.T, what string, got, want api.Errno) {
	t.Helper()
	if got != want {
		t.Errorf("%s = %d, want %d", what, got, want)
	}
}

func checkLog(t *testing.T, l *wal.Log, turn, room int, broken bool, records [][]byte) {
	t.Helper()
	if l.Turn() != turn || l.Room() != room || l.Broken() != broken {
		t.Errorf("Turn, Room, Broken = %d, %d, %v; want %d, %d, %v", l.Turn(), l.Room(), l.Broken(), turn, room, broken)
	}
	if got := l.Records(); !same(got, records) {
		t.Errorf("the records are %q, want %q", got, records)
	}
}

func checkImage(t *testing.T, d *disk.Disk, want []disk.Sector) {
	t.Helper()
	got := image(t, d)
	if len(got) != len(want) {
		t.Fatalf("%d sectors, want %d", len(got), len(want))
	}
	for at := range got {
		if got[at] != want[at] {
			t.Errorf("in sector %d there is % x, want % x", at, got[at], want[at])
		}
	}
}

func checkCounts(t *testing.T, d *disk.Disk, wait, calls int, down bool) {
	t.Helper()
	if d.Wait() != wait || d.Calls() != calls || d.Down() != down {
		t.Errorf("Wait, Calls, Down = %d, %d, %v; want %d, %d, %v", d.Wait(), d.Calls(), d.Down(), wait, calls, down)
	}
}

// checkDisks tells that two disks are as if the same calls had been made.
func checkDisks(t *testing.T, d, twin *disk.Disk) {
	t.Helper()
	checkCounts(t, d, twin.Wait(), twin.Calls(), twin.Down())
	if !d.Down() && !twin.Down() {
		checkImage(t, d, image(t, twin))
	}
}

// checkLike tells that a log and its disk are as the model and its disk are.
func checkLike(t *testing.T, l *wal.Log, d *disk.Disk, m *model) {
	t.Helper()
	checkLog(t, l, m.turn, m.room, m.broken, m.records)
	checkDisks(t, d, m.d)
}
