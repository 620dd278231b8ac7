package wire_test

import (
	"encoding/binary"
	"math/rand"
	"slices"
	"testing"

	"terrier/api"
	"terrier/wire"
)

// The places, from 0 on, of the bytes of an echo that P7.3 wants to be of one value, and of its two sums.
var (
	namedPlaces = []int{0, 2, 3, 9, 21}
	sumPlaces   = []int{10, 11, 22, 23}
)

// modelWords adds all words first, and the excess behind that until none is left.
func modelWords(b []byte) uint16 {
	total := 0
	for i := 0; i < len(b); i += 2 {
		total += int(binary.BigEndian.Uint16(b[i:]))
	}
	for total > 65535 {
		total = total%65536 + total/65536
	}
	return uint16(65535 - total)
}

// resealed has both sums of an echo right, whatever its other bytes are.
func resealed(b []byte) []byte {
	b = slices.Clone(b)
	for _, part := range [][]byte{b[:20], b[20:]} {
		at := 10
		if len(part) == 12 {
			at = 2
		}
		part[at], part[at+1] = 0, 0
		binary.BigEndian.PutUint16(part[at:], modelWords(part))
	}
	return b
}

// modelEcho joins the parts in the order in which the promise lists them.
func modelEcho(p wire.Packet) []byte {
	b := []byte{0x45, 0, 0, 32, 0, 0, 0, 0, 64, 1, 0, 0}
	b = binary.BigEndian.AppendUint32(b, uint32(p.From))
	b = binary.BigEndian.AppendUint32(b, uint32(p.To))
	if p.Answer {
		b = append(b, 0, 0, 0, 0)
	} else {
		b = append(b, 8, 0, 0, 0)
	}
	b = append(b, byte(p.ID>>8), byte(p.ID), byte(p.Seq>>8), byte(p.Seq))
	return resealed(append(b, 0, 0, 0, 0))
}

func modelReadEcho(b []byte) (wire.Packet, api.Errno) {
	if len(b) != 32 || b[20] != 0 && b[20] != 8 {
		return wire.Packet{}, api.ErrForm
	}
	for _, at := range namedPlaces {
		if b[at] != modelEcho(wire.Packet{})[at] {
			return wire.Packet{}, api.ErrForm
		}
	}
	if modelWords(b[:20]) != 0 || modelWords(b[20:]) != 0 {
		return wire.Packet{}, api.ErrSum
	}
	return wire.Packet{
		Answer: b[20] == 0,
		From:   api.Addr(binary.BigEndian.Uint32(b[12:])),
		To:     api.Addr(binary.BigEndian.Uint32(b[16:])),
		ID:     int(binary.BigEndian.Uint16(b[24:])),
		Seq:    int(binary.BigEndian.Uint16(b[26:])),
	}, 0
}

// asEcho is a packet without what an echo has no place for.
func asEcho(p wire.Packet) wire.Packet {
	p.Mac = api.Mac{}
	p.ID, p.Seq = p.ID&0xffff, p.Seq&0xffff
	return p
}

func echoQuestion() wire.Packet {
	return wire.Packet{From: 0x01020304, To: 0xfffefdfc, ID: 0x1234, Seq: 0x5678}
}

func echoAnswer() wire.Packet {
	p := echoQuestion()
	p.Answer = true
	return p
}

// someEchos are packets of both kinds, with the least and the greatest parts.
func someEchos() []wire.Packet {
	list := []wire.Packet{echoQuestion(), echoAnswer(), {}, {Answer: true}, {From: one, To: two, ID: 7, Seq: 9}, {Answer: true, From: two, To: one, ID: 7, Seq: 9}}
	for _, answer := range []bool{false, true} {
		list = append(list, wire.Packet{Answer: answer, From: everywhere, To: everywhere, ID: 65535, Seq: 65535})
		list = append(list, wire.Packet{Answer: answer, From: 0x7ade, ID: 0xf7ff}) // the sums of a question are 0
	}
	return list
}

// P7.2

func TestEchoByteByByte(t *testing.T) {
	for want, p := range map[string]wire.Packet{
		"45 00 0020 00000000 40 01 66db 0a000001 0a000002 08 00 f7ef 0007 0009 00000000": {From: one, To: two, ID: 7, Seq: 9},
		"45 00 0020 00000000 40 01 66db 0a000002 0a000001 00 00 ffef 0007 0009 00000000": {Answer: true, From: two, To: one, ID: 7, Seq: 9},
		"45 00 0020 00000000 40 01 7ade 00000000 00000000 08 00 f7ff 0000 0000 00000000": {},
		"45 00 0020 00000000 40 01 7ade 00000000 00000000 00 00 ffff 0000 0000 00000000": {Answer: true},
		"45 00 0020 00000000 40 01 7ade ffffffff ffffffff 08 00 f7ff ffff ffff 00000000": {From: everywhere, To: everywhere, ID: 65535, Seq: 65535},
		"45 00 0020 00000000 40 01 7ade ffffffff ffffffff 00 00 0000 ffff ffff 00000000": {Answer: true, From: everywhere, To: everywhere, ID: -1, Seq: -65537},
		"45 00 0020 00000000 40 01 7ade ffffffff 00000000 08 00 f7ff 0000 0000 00000000": {From: everywhere, ID: 65536, Seq: 65536},
		"45 00 0020 00000000 40 01 7ade 00000000 ffffffff 00 00 fffc 0001 0002 00000000": {Answer: true, To: everywhere, ID: 65537, Seq: -65534},
		"45 00 0020 00000000 40 01 0000 00007ade 00000000 08 00 0000 f7ff 0000 00000000": {From: 0x7ade, ID: 0xf7ff},
		"45 00 0020 00000000 40 01 78dc 01020304 fffefdfc 08 00 8f53 1234 5678 00000000": echoQuestion(),
		"45 00 0020 00000000 40 01 78dc 01020304 fffefdfc 00 00 9753 1234 5678 00000000": echoAnswer(),
	} {
		checkBytes(t, wire.Echo(p), unhexed(t, want))
	}
}

func TestEchoHasNoPlaceForTheStation(t *testing.T) {
	for _, p := range someEchos() {
		want := wire.Echo(p)
		for _, m := range someMac {
			p.Mac = m
			checkBytes(t, wire.Echo(p), want)
		}
	}
}

func TestEchoHasTheLowOrderBitsOfIDAndSeq(t *testing.T) {
	for _, answer := range []bool{false, true} {
		for _, id := range someInt {
			for _, seq := range someInt {
				p := wire.Packet{Answer: answer, From: one, To: two, ID: id, Seq: seq}
				checkBytes(t, wire.Echo(p), modelEcho(p))
				checkRead(t, wire.ReadEcho, wire.Echo(p), asEcho(p))
			}
		}
	}
}

func TestEchoOfTheAddressesAtTheEnds(t *testing.T) {
	for _, answer := range []bool{false, true} {
		for _, from := range someAddr {
			for _, to := range someAddr {
				p := wire.Packet{Answer: answer, From: from, To: to, ID: 1, Seq: 2}
				checkBytes(t, wire.Echo(p), modelEcho(p))
				checkRead(t, wire.ReadEcho, modelEcho(p), p)
			}
		}
	}
}

// P7.3

func TestReadEchoOfWhatWasWritten(t *testing.T) {
	r := rand.New(rand.NewSource(3))
	for range 20000 {
		p := randomPacket(r)
		b := wire.Echo(p)
		checkBytes(t, b, modelEcho(p))
		checkRead(t, wire.ReadEcho, b, asEcho(p))
	}
	for _, p := range someEchos() {
		checkRead(t, wire.ReadEcho, modelEcho(p), p)
	}
}

func TestReadEchoOfEachIDAndSeq(t *testing.T) {
	for n := range 65536 {
		p := wire.Packet{Answer: n%2 == 0, From: one, To: two, ID: n, Seq: 65535 - n}
		checkRead(t, wire.ReadEcho, modelEcho(p), p)
	}
}

func TestReadEchoRefusesOtherLengths(t *testing.T) {
	for _, p := range someEchos() {
		checkLengths(t, wire.ReadEcho, wire.Echo(p))
	}
}

// ErrForm comes ahead of ErrSum: with the sums that were right of the other bytes, with sums that are wrong for sure, and with sums that are right.
func TestReadEchoWithOtherNamedBytes(t *testing.T) {
	for _, p := range someEchos() {
		b := wire.Echo(p)
		for _, at := range namedPlaces {
			for c := range 256 {
				if byte(c) != b[at] {
					checkNoForm(t, with(b, at, byte(c)))
				}
			}
		}
		for c := range 256 {
			if c != 0 && c != 8 {
				checkNoForm(t, with(b, 20, byte(c)))
			}
		}
	}
	checkNoForm(t, make([]byte, 32))
}

func checkNoForm(t *testing.T, b []byte) {
	t.Helper()
	checkRefused(t, wire.ReadEcho, b, api.ErrForm)
	right := resealed(b)
	checkRefused(t, wire.ReadEcho, right, api.ErrForm)
	for _, at := range sumPlaces {
		checkRefused(t, wire.ReadEcho, with(right, at, right[at]+1), api.ErrForm)
	}
}

// A kind that is turned round is a packet of the other kind, but its sum is another one.
func TestReadEchoWithTheOtherKind(t *testing.T) {
	for _, p := range someEchos() {
		turned := p
		turned.Answer = !p.Answer
		b := with(wire.Echo(p), 20, wire.Echo(turned)[20])
		checkRefused(t, wire.ReadEcho, b, api.ErrSum)
		checkRead(t, wire.ReadEcho, resealed(b), turned)
	}
}

// What P7.3 does not name may be anything, as long as the sums are right.
func TestReadEchoWithOtherBytesThatAreNotNamed(t *testing.T) {
	for _, p := range someEchos() {
		b := wire.Echo(p)
		for _, at := range []int{1, 4, 5, 6, 7, 8, 28, 29, 30, 31} {
			for c := range 256 {
				other := with(b, at, byte(c))
				checkRead(t, wire.ReadEcho, resealed(other), p)
				if byte(c) != b[at] {
					checkRefused(t, wire.ReadEcho, other, api.ErrSum)
				}
			}
		}
		all := slices.Clone(b)
		for _, at := range []int{1, 4, 5, 6, 7, 8, 28, 29, 30, 31} {
			all[at] = byte(200 + at)
		}
		checkRead(t, wire.ReadEcho, resealed(all), p)
	}
}

func TestReadEchoWithOtherSums(t *testing.T) {
	for _, p := range []wire.Packet{echoQuestion(), echoAnswer(), {From: one, To: two, ID: 7, Seq: 9}} {
		b := wire.Echo(p)
		for _, at := range []int{10, 22} {
			for word := range 65536 {
				other := slices.Clone(b)
				binary.BigEndian.PutUint16(other[at:], uint16(word))
				if string(other) == string(b) {
					checkRead(t, wire.ReadEcho, other, p)
				} else {
					checkRefused(t, wire.ReadEcho, other, api.ErrSum)
				}
			}
		}
	}
}

// Sealed holds for ffff in the place of a 0, and for no 0 in the place of ffff if there are zeros only.
func TestReadEchoWithSumsAtTheEdge(t *testing.T) {
	p := wire.Packet{From: 0x7ade, ID: 0xf7ff}
	for _, at := range []int{10, 22} {
		b := wire.Echo(p)
		b[at], b[at+1] = 255, 255
		checkRead(t, wire.ReadEcho, b, p)
	}
	zeros := wire.Echo(wire.Packet{Answer: true})
	zeros[22], zeros[23] = 0, 0
	checkRefused(t, wire.ReadEcho, zeros, api.ErrSum)
}

// The two sums are apart: what is wrong in one part isn't made up for in the other one.
func TestReadEchoSumsTheTwoPartsApart(t *testing.T) {
	for _, p := range []wire.Packet{echoQuestion(), echoAnswer()} {
		b := wire.Echo(p)
		checkRefused(t, wire.ReadEcho, with(with(b, 11, b[11]+1), 23, b[23]-1), api.ErrSum)
		checkRefused(t, wire.ReadEcho, with(with(b, 11, b[11]-1), 23, b[23]+1), api.ErrSum)
		checkRefused(t, wire.ReadEcho, with(with(b, 19, b[19]-1), 25, b[25]+1), api.ErrSum)
		exchanged := slices.Clone(b)
		copy(exchanged[10:12], b[22:24])
		copy(exchanged[22:24], b[10:12])
		checkRefused(t, wire.ReadEcho, exchanged, api.ErrSum)
	}
}

func TestReadEchoWithOneByteAltered(t *testing.T) {
	for _, p := range someEchos() {
		b := wire.Echo(p)
		for at := range b {
			for c := range 256 {
				if byte(c) == b[at] {
					continue
				}
				want := api.ErrSum
				if slices.Contains(namedPlaces, at) || at == 20 && c != 0 && c != 8 {
					want = api.ErrForm
				}
				checkRefused(t, wire.ReadEcho, with(b, at, byte(c)), want)
			}
		}
	}
}

// Bytes that are nearly a packet, with some of them other, and most often with right sums.
func TestReadEchoOfAnyBytes(t *testing.T) {
	r := rand.New(rand.NewSource(4))
	for range 50000 {
		b := modelEcho(randomPacket(r))
		for range r.Intn(4) {
			b[r.Intn(len(b))] = byte(r.Intn(10))
		}
		if r.Intn(4) > 0 {
			b = resealed(b)
		}
		b = b[:len(b)-r.Intn(20)/19]
		want, wantErr := modelReadEcho(b)
		if p, err := wire.ReadEcho(b); p != want || err != wantErr {
			t.Errorf("% x is read as %+v, %d; want %+v, %d", b, p, err, want, wantErr)
		}
	}
}

func TestEchoLeavesArguments(t *testing.T) {
	b := wire.Echo(echoAnswer())
	for _, c := range [][]byte{b, wire.Echo(echoQuestion()), b[:31], append(slices.Clone(b), 1), with(b, 0, 9), with(b, 20, 3), with(b, 10, 1), with(b, 22, 8), with(b, 30, 8)} {
		checkUnchanged(t, wire.ReadEcho, c)
	}
	checkNew(t, wire.Echo, echoAnswer())
	checkNew(t, wire.Echo, echoQuestion())
}
