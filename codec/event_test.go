package codec_test

import (
	"math"
	"strings"
	"testing"

	"terrier/api"
)

// P19.1

func TestEventOfEachKind(t *testing.T) {
	for what, want := range []string{
		"00",
		"01 01020304 04 616e6e37 101112131415",
		"02 01020304",
		"03 20212223 18",
		"04 20212223 18",
		"05 01020304 03 303132333435",
		"06 01020304",
		"07 01020304",
	} {
		checkEvent(t, full(api.What(what)), ofHex(want))
		checkEvent(t, counting(full(api.What(what))), ofHex(want))
	}
}

func TestEventOfZeros(t *testing.T) {
	for what, want := range []string{"00", "01 00000000 00 000000000000", "02 00000000", "03 00000000 00", "04 00000000 00", "05 00000000 00 000000000000", "06 00000000", "07 00000000"} {
		checkEvent(t, api.Event{What: api.What(what)}, ofHex(want))
	}
}

// Nothing follows a What that is none of the eight, even if its last byte is one of theirs.
func TestEventOfNoKind(t *testing.T) {
	for what, want := range map[api.What]string{
		8: "08", 9: "09", 255: "ff", 256: "00", 257: "01", 258: "02", 259: "03", 261: "05", 1<<32 + 1: "01", math.MaxInt: "ff",
		-1: "ff", -2: "fe", -251: "05", -255: "01", -256: "00", -257: "ff", math.MinInt: "00", math.MinInt + 3: "03",
	} {
		checkEvent(t, full(what), ofHex(want))
		checkEvent(t, api.Event{What: what}, ofHex(want))
	}
}

// An owner is written as it is, whether it may be or not; of its length the last byte is.
func TestEventOfOwners(t *testing.T) {
	lengths := map[int]byte{0: 0, 1: 1, 7: 7, 8: 8, 9: 9, 127: 127, 128: 128, 255: 255, 256: 0, 257: 1, 264: 8, 300: 44, 65536: 0, 65537: 1}
	for n, length := range lengths {
		owner := strings.Repeat("q", n)
		want := append(ofHex("01 0a010203"), length)
		want = append(want, owner...)
		checkEvent(t, hold(0x0a010203, owner, all), append(want, all[:]...))
	}
	for owner, want := range map[string]string{"z": "01 7a", "09": "02 3039", "azAZ": "04 617a415a", "\x00": "01 00", "\xff\x80": "02 ff80", "é": "02 c3a9", " : -": "04 203a202d", "\n": "01 0a"} {
		checkEvent(t, hold(1, owner, one), ofHex("01 00000001"+want+"020000000001"))
	}
}

func addresses() map[api.Addr]string {
	return map[api.Addr]string{0: "00000000", 1: "00000001", 0xff: "000000ff", 0x100: "00000100", 0xffff: "0000ffff", 0x10000: "00010000", 0x7fffffff: "7fffffff", 0x80000000: "80000000", 0xff000000: "ff000000", lastAddr: "ffffffff", 0x0a000001: "0a000001"}
}

func stations() map[api.Mac]string {
	return map[api.Mac]string{none: "000000000000", one: "020000000001", group: "030000000001", all: "ffffffffffff", {0, 0, 0, 0, 0, 1}: "000000000001", {0x80}: "800000000000", {1}: "010000000000", distant: "101112131415"}
}

func TestEventOfAddressesAndStations(t *testing.T) {
	for a, text := range addresses() {
		checkEvent(t, of(api.Drop, a), ofHex("02"+text))
		checkEvent(t, of(api.Approve, a), ofHex("06"+text))
		checkEvent(t, of(api.Reject, a), ofHex("07"+text))
		checkEvent(t, block(api.Watch, a, 32), ofHex("03"+text+"20"))
		checkEvent(t, block(api.Ignore, a, 31), ofHex("04"+text+"1f"))
		for m, station := range stations() {
			checkEvent(t, hold(a, "ab", m), ofHex("01"+text+"026162"+station))
			checkEvent(t, saw(a, api.Arp, m), ofHex("05"+text+"01"+station))
		}
	}
}

// Prefixes and sources are written whether they may be or not; of their numbers the last byte is.
func TestEventOfNumbersThatDoNotFit(t *testing.T) {
	for n, want := range map[int]string{
		0: "00", 1: "01", 3: "03", 4: "04", 24: "18", 32: "20", 33: "21", 127: "7f", 128: "80", 255: "ff", 256: "00", 257: "01", 511: "ff", 65536: "00", 0x12345: "45",
		-1: "ff", -2: "fe", -128: "80", -255: "01", -256: "00", -257: "ff", math.MaxInt: "ff", math.MinInt: "00", math.MinInt + 9: "09", lastTick + 7: "07",
	} {
		checkEvent(t, block(api.Watch, net, n), ofHex("03 0a010000"+want))
		checkEvent(t, block(api.Ignore, lastAddr, n), ofHex("04 ffffffff"+want))
		checkEvent(t, saw(net, api.Source(n), one), ofHex("05 0a010000"+want+"020000000001"))
	}
}

// The fields that do not count are not in the bytes, whatever they are.
func TestEventWithoutTheOtherFields(t *testing.T) {
	for what := api.What(-2); what < 12; what++ {
		for _, n := range numbers() {
			e := full(what)
			want := counting(e)
			e.Sight.At = n
			if what != api.Saw {
				e.Sight.From, e.Sight.Mac = api.Source(n), api.Mac{byte(n)}
			}
			if what != api.Watch && what != api.Ignore {
				e.Block = api.Block{Base: api.Addr(n), Bits: n}
			}
			if what != api.Hold {
				e.Holder.Owner, e.Holder.Mac = strings.Repeat("x", n&511), api.Mac{byte(n)}
			}
			checkEvent(t, e, modelEvent(want))
		}
	}
}
