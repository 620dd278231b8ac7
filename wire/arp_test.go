package wire_test

import (
	"encoding/binary"
	"math/rand"
	"slices"
	"testing"

	"terrier/api"
	"terrier/wire"
)

// modelArp joins the parts in the order in which the promise lists them.
func modelArp(p wire.Packet) []byte {
	b := []byte{0, 1, 8, 0, 6, 4, 0, 1}
	if p.Answer {
		b[7] = 2
	}
	b = append(b, p.Mac[:]...)
	b = binary.BigEndian.AppendUint32(b, uint32(p.From))
	b = append(b, 0, 0, 0, 0, 0, 0)
	return binary.BigEndian.AppendUint32(b, uint32(p.To))
}

// modelReadArp goes the other way: bytes are a packet if some packet is written so.
func modelReadArp(b []byte) (wire.Packet, api.Errno) {
	if len(b) != 28 {
		return wire.Packet{}, api.ErrForm
	}
	p := wire.Packet{
		Answer: b[7] == 2,
		From:   api.Addr(binary.BigEndian.Uint32(b[14:18])),
		To:     api.Addr(binary.BigEndian.Uint32(b[24:28])),
		Mac:    api.Mac(b[8:14]),
	}
	if string(modelArp(p)[:18]) != string(b[:18]) || p.Answer && (p.Mac == api.Mac{} || p.Mac[0]%2 == 1) {
		return wire.Packet{}, api.ErrForm
	}
	return p, 0
}

// asArp is a packet without what ARP has no place for.
func asArp(p wire.Packet) wire.Packet {
	p.ID, p.Seq = 0, 0
	return p
}

func arpQuestion() wire.Packet {
	return wire.Packet{From: 0x01020304, To: 0xfffefdfc, Mac: api.Mac{2, 3, 4, 5, 6, 7}}
}

func arpAnswer() wire.Packet {
	p := arpQuestion()
	p.Answer = true
	return p
}

// P7.1

func TestArpByteByByte(t *testing.T) {
	for want, p := range map[string]wire.Packet{
		"0001 0800 06 04 0001 020304050607 01020304 000000000000 fffefdfc": arpQuestion(),
		"0001 0800 06 04 0002 020304050607 01020304 000000000000 fffefdfc": arpAnswer(),
		"0001 0800 06 04 0001 000000000000 00000000 000000000000 00000000": {},
		"0001 0800 06 04 0002 000000000000 00000000 000000000000 00000000": {Answer: true},
		"0001 0800 06 04 0001 000000000000 ffffffff 000000000000 ffffffff": {From: everywhere, To: everywhere},
		"0001 0800 06 04 0002 ffffffffffff ffffffff 000000000000 ffffffff": {Answer: true, From: everywhere, To: everywhere, Mac: api.Mac{255, 255, 255, 255, 255, 255}},
		"0001 0800 06 04 0001 000000000000 ffffffff 000000000000 00000000": {From: everywhere},
		"0001 0800 06 04 0001 000000000000 00000000 000000000000 ffffffff": {To: everywhere},
		"0001 0800 06 04 0002 020000000005 0a000001 000000000000 0a000002": {Answer: true, From: one, To: two, Mac: station},
		"0001 0800 06 04 0001 010000000000 0a000001 000000000000 0a000002": {From: one, To: two, Mac: api.Mac{1}},
	} {
		checkBytes(t, wire.Arp(p), unhexed(t, want))
	}
}

func TestArpHasNoPlaceForIDAndSeq(t *testing.T) {
	for _, p := range []wire.Packet{arpQuestion(), arpAnswer(), {}} {
		want := wire.Arp(p)
		for _, id := range someInt {
			for _, seq := range someInt {
				p.ID, p.Seq = id, seq
				checkBytes(t, wire.Arp(p), want)
			}
		}
	}
}

func TestArpOfManyPackets(t *testing.T) {
	for _, from := range someAddr {
		for _, to := range someAddr {
			for _, m := range someMac {
				for _, answer := range []bool{false, true} {
					p := wire.Packet{Answer: answer, From: from, To: to, Mac: m}
					checkBytes(t, wire.Arp(p), modelArp(p))
				}
			}
		}
	}
}

func TestReadArpOfWhatWasWritten(t *testing.T) {
	r := rand.New(rand.NewSource(1))
	for range 20000 {
		p := randomPacket(r)
		b := wire.Arp(p)
		checkBytes(t, b, modelArp(p))
		if p.Answer && p.Mac[0]%2 == 1 {
			checkRefused(t, wire.ReadArp, b, api.ErrForm)
		} else {
			checkRead(t, wire.ReadArp, b, asArp(p))
		}
	}
}

func TestReadArpOfTheAddressesAtTheEnds(t *testing.T) {
	for _, from := range someAddr {
		for _, to := range someAddr {
			for _, answer := range []bool{false, true} {
				p := wire.Packet{Answer: answer, From: from, To: to, Mac: station}
				checkRead(t, wire.ReadArp, modelArp(p), p)
			}
		}
	}
	checkRead(t, wire.ReadArp, modelArp(wire.Packet{}), wire.Packet{})
}

func TestReadArpRefusesOtherLengths(t *testing.T) {
	for _, p := range []wire.Packet{arpQuestion(), arpAnswer(), {}} {
		checkLengths(t, wire.ReadArp, wire.Arp(p))
	}
}

func TestReadArpWithOtherFirstBytes(t *testing.T) {
	for _, p := range []wire.Packet{arpQuestion(), arpAnswer()} {
		b := wire.Arp(p)
		for at := range 7 {
			for c := range 256 {
				if byte(c) != b[at] {
					checkRefused(t, wire.ReadArp, with(b, at, byte(c)), api.ErrForm)
				}
			}
		}
	}
	checkRefused(t, wire.ReadArp, make([]byte, 28), api.ErrForm)
}

func TestReadArpWithOtherKinds(t *testing.T) {
	for _, p := range []wire.Packet{arpQuestion(), arpAnswer()} {
		for c := range 256 {
			b := with(wire.Arp(p), 7, byte(c))
			switch c {
			case 1:
				checkRead(t, wire.ReadArp, b, arpQuestion())
			case 2:
				checkRead(t, wire.ReadArp, b, arpAnswer())
			default:
				checkRefused(t, wire.ReadArp, b, api.ErrForm)
			}
		}
	}
}

func TestReadArpWithOtherBytesAheadOfTo(t *testing.T) {
	for _, p := range []wire.Packet{arpQuestion(), arpAnswer()} {
		for at := 18; at < 24; at++ {
			for c := range 256 {
				checkRead(t, wire.ReadArp, with(wire.Arp(p), at, byte(c)), p)
			}
		}
		for _, m := range someMac {
			b := wire.Arp(p)
			copy(b[18:24], m[:])
			checkRead(t, wire.ReadArp, b, p)
		}
	}
}

// The bytes ahead of To don't make up for a station that is None.
func TestReadArpOfAnAnswerLooksAtTheStationOfItsSender(t *testing.T) {
	b := wire.Arp(wire.Packet{Answer: true, From: one, To: two})
	copy(b[18:24], station[:])
	checkRefused(t, wire.ReadArp, b, api.ErrForm)
}

func TestReadArpOfAnAnswerFromNone(t *testing.T) {
	p := wire.Packet{Answer: true, From: one, To: two}
	checkRefused(t, wire.ReadArp, wire.Arp(p), api.ErrForm)
	for bit := range 48 {
		p.Mac = api.Mac{}
		p.Mac[bit/8] = 1 << (bit % 8)
		if bit == 0 {
			checkRefused(t, wire.ReadArp, wire.Arp(p), api.ErrForm)
		} else {
			checkRead(t, wire.ReadArp, wire.Arp(p), p)
		}
	}
}

func TestReadArpOfAnAnswerFromAGroup(t *testing.T) {
	for first := range 256 {
		for _, rest := range []byte{0, 1, 0xfe, 255} {
			p := wire.Packet{Answer: true, From: one, To: two, Mac: api.Mac{byte(first), rest, rest, rest, rest, rest}}
			if first%2 == 1 || p.Mac == (api.Mac{}) {
				checkRefused(t, wire.ReadArp, wire.Arp(p), api.ErrForm)
			} else {
				checkRead(t, wire.ReadArp, wire.Arp(p), p)
			}
		}
	}
}

func TestReadArpOfAQuestionFromNoneOrAGroup(t *testing.T) {
	for first := range 256 {
		for _, rest := range []byte{0, 1, 255} {
			p := wire.Packet{From: one, To: two, Mac: api.Mac{byte(first), rest, rest, rest, rest, rest}}
			checkRead(t, wire.ReadArp, wire.Arp(p), p)
		}
	}
	for _, m := range someMac {
		p := wire.Packet{From: one, To: two, Mac: m}
		checkRead(t, wire.ReadArp, wire.Arp(p), p)
	}
}

// Bytes that are nearly a packet, with some of them other.
func TestReadArpOfAnyBytes(t *testing.T) {
	r := rand.New(rand.NewSource(2))
	for range 50000 {
		b := modelArp(randomPacket(r))
		for range r.Intn(3) {
			b[r.Intn(len(b))] = byte(r.Intn(10))
		}
		b = b[:len(b)-r.Intn(20)/19]
		want, wantErr := modelReadArp(b)
		if p, err := wire.ReadArp(b); p != want || err != wantErr {
			t.Errorf("% x is read as %+v, %d; want %+v, %d", b, p, err, want, wantErr)
		}
	}
}

func TestArpLeavesArguments(t *testing.T) {
	b := wire.Arp(arpAnswer())
	for _, c := range [][]byte{b, wire.Arp(arpQuestion()), b[:27], append(slices.Clone(b), 1), with(b, 0, 9), with(b, 7, 3), with(b, 8, 1), with(b, 20, 8)} {
		checkUnchanged(t, wire.ReadArp, c)
	}
	checkNew(t, wire.Arp, arpAnswer())
	checkNew(t, wire.Arp, arpQuestion())
}

// The packet is a copy of what stood in the bytes.
func TestReadArpKeepsNoBytes(t *testing.T) {
	b := wire.Arp(arpAnswer())
	p, _ := wire.ReadArp(b)
	clear(b)
	if p != arpAnswer() {
		t.Error(p)
	}
}
