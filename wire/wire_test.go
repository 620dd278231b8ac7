package wire_test

import (
	"encoding/hex"
	"math"
	"math/rand"
	"slices"
	"strings"
	"testing"

	"terrier/api"
	"terrier/wire"
)

const (
	everywhere = api.Addr(math.MaxUint32) // 255.255.255.255
	one        = api.Addr(0x0a000001)
	two        = api.Addr(0x0a000002)
)

var (
	station  = api.Mac{2, 0, 0, 0, 0, 5}
	someAddr = []api.Addr{0, 1, 255, 256, 65535, 65536, 0x01020304, 0x7fffffff, 0x80000000, 0xff000000, 0xfffffffe, everywhere}
	someMac  = []api.Mac{station, {0, 0, 0, 0, 0, 1}, {0xfe, 255, 255, 255, 255, 255}, {2, 3, 4, 5, 6, 7}, {}, {1}, {255, 255, 255, 255, 255, 255}}
	someInt  = []int{0, 1, 255, 256, 0x1234, 32767, 32768, 65534, 65535, 65536, 65537, 0x10007, -1, -2, -65535, -65536, -65537, 1 << 32, 1<<32 - 1, math.MaxInt, math.MinInt}
)

// reader is ReadArp or ReadEcho.
type reader func([]byte) (wire.Packet, api.Errno)

// unhexed is bytes that are written as digits, with spaces anywhere.
func unhexed(t *testing.T, s string) []byte {
	t.Helper()
	b, err := hex.DecodeString(strings.ReplaceAll(s, " ", ""))
	if err != nil {
		t.Fatal(err)
	}
	return b
}

func with(b []byte, at int, c byte) []byte {
	b = slices.Clone(b)
	b[at] = c
	return b
}

func checkBytes(t *testing.T, got, want []byte) {
	t.Helper()
	if string(got) != string(want) {
		t.Errorf("got  % x\nwant % x", got, want)
	}
}

func checkRead(t *testing.T, read reader, b []byte, want wire.Packet) {
	t.Helper()
	if p, err := read(b); p != want || err != 0 {
		t.Errorf("% x is read as %+v, %d; want %+v, 0", b, p, err, want)
	}
}

func checkRefused(t *testing.T, read reader, b []byte, want api.Errno) {
	t.Helper()
	if p, err := read(b); p != (wire.Packet{}) || err != want {
		t.Errorf("% x is read as %+v, %d; want the zero Packet, %d", b, p, err, want)
	}
}

// randomPacket has all fields filled, those too that its way of writing has no place for.
func randomPacket(r *rand.Rand) wire.Packet {
	p := wire.Packet{Answer: r.Intn(2) == 0, From: api.Addr(r.Uint32()), To: api.Addr(r.Uint32()), ID: int(r.Uint64()), Seq: int(r.Uint64())}
	r.Read(p.Mac[:])
	return p
}

// checkLengths refuses a packet, and bytes of all kinds, at every other length than its own.
func checkLengths(t *testing.T, read reader, b []byte) {
	t.Helper()
	checkRefused(t, read, nil, api.ErrForm)
	checkRefused(t, read, []byte{}, api.ErrForm)
	for n := range b {
		checkRefused(t, read, b[:n], api.ErrForm)
		checkRefused(t, read, slices.Clone(b[:n]), api.ErrForm)
		checkRefused(t, read, b[len(b)-n:], api.ErrForm)
		checkRefused(t, read, make([]byte, n), api.ErrForm)
		checkRefused(t, read, slices.Concat(b, b[:n+1]), api.ErrForm)
		checkRefused(t, read, slices.Concat(b, make([]byte, n+1)), api.ErrForm)
		checkRefused(t, read, slices.Concat(make([]byte, n+1), b), api.ErrForm)
	}
	checkRefused(t, read, append(slices.Clone(b), 255), api.ErrForm)
	checkRefused(t, read, slices.Concat(b, make([]byte, 100000)), api.ErrForm)
}

func checkUnchanged(t *testing.T, read reader, b []byte) {
	t.Helper()
	room := append(slices.Clone(b), 7, 7, 7, 7)
	before := slices.Clone(room)
	read(room[:len(b)])
	checkBytes(t, room, before)
}

// checkNew writes a packet twice: what is done to the first row of bytes isn't seen in the second one.
func checkNew(t *testing.T, write func(wire.Packet) []byte, p wire.Packet) {
	t.Helper()
	first := write(p)
	want := slices.Clone(first)
	second := write(p)
	for i := range first {
		first[i] ^= 255
	}
	_ = append(first, 1, 2, 3)
	checkBytes(t, second, want)
	checkBytes(t, write(p), want)
}

// P7.1, P7.2

func TestLengths(t *testing.T) {
	if wire.ArpLen != 28 || wire.EchoLen != 32 {
		t.Error(wire.ArpLen, wire.EchoLen)
	}
}

// P7.1, P7.3

func TestReadersTellPacketsApart(t *testing.T) {
	p := wire.Packet{Answer: true, From: one, To: two, Mac: station, ID: 3, Seq: 4}
	checkRefused(t, wire.ReadArp, wire.Echo(p), api.ErrForm)
	checkRefused(t, wire.ReadEcho, wire.Arp(p), api.ErrForm)
	checkRefused(t, wire.ReadArp, wire.Echo(p)[:28], api.ErrForm)
	checkRefused(t, wire.ReadEcho, append(wire.Arp(p), 0, 0, 0, 0), api.ErrForm)
}
