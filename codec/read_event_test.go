package codec_test

import (
	"bytes"
	"slices"
	"strings"
	"testing"

	"terrier/api"
	"terrier/codec"
)

// P19.2

// possible are events that may be, by what counts of them.
func possible() []api.Event {
	var es []api.Event
	for what := api.Tick; what < api.Whats; what++ {
		es = append(es, counting(full(what)))
	}
	for a := range addresses() {
		es = append(es, of(api.Drop, a), of(api.Approve, a), of(api.Reject, a))
		for _, bits := range []int{0, 1, 24, 31, 32, 33, 127, 128, 254, 255} {
			es = append(es, block(api.Watch, a, bits), block(api.Ignore, a, bits))
		}
		for _, owner := range []string{"a", "z", "0", "9", "az09", "1234567", "abcdefgh", "zzzzzzzz"} {
			es = append(es, hold(a, owner, none), hold(a, owner, one), hold(a, owner, api.Mac{0xfe, 0xff, 0xff, 0xff, 0xff, 0xff}))
		}
		for from := api.Echo; from < api.Sources; from++ {
			for m := range stations() {
				es = append(es, saw(a, from, m))
			}
		}
	}
	return es
}

func TestWhatIsWrittenIsRead(t *testing.T) {
	for _, e := range possible() {
		checkReadEvent(t, codec.Event(e), e, true)
		checkReadEvent(t, modelEvent(e), e, true)
	}
	for what := api.Tick; what < api.Whats; what++ {
		checkReadEvent(t, codec.Event(full(what)), counting(full(what)), true)
	}
}

func TestReadEventOfEachKind(t *testing.T) {
	for text, want := range map[string]api.Event{
		"00":                                   {},
		"01 01020304 04 616e6e37 101112131415": hold(0x01020304, "ann7", distant),
		"02 01020304":                          of(api.Drop, 0x01020304),
		"03 20212223 18":                       block(api.Watch, 0x20212223, 24),
		"04 20212223 18":                       block(api.Ignore, 0x20212223, 24),
		"05 01020304 00 303132333435":          saw(0x01020304, api.Echo, api.Mac{0x30, 0x31, 0x32, 0x33, 0x34, 0x35}),
		"05 01020304 03 ffffffffffff":          saw(0x01020304, api.Lease, all),
		"06 01020304":                          of(api.Approve, 0x01020304),
		"07 01020304":                          of(api.Reject, 0x01020304),
	} {
		checkReadEvent(t, ofHex(text), want, true)
	}
}

func TestReadEventOfNoBytes(t *testing.T) {
	checkNoEvent(t, nil)
	checkNoEvent(t, []byte{})
	if e, ok := codec.ReadEvent(nil); e != (api.Event{}) || ok {
		t.Error(e, ok)
	}
}

// One byte too few, at the end or anywhere else, or one too many.
func TestReadEventOfOtherLengths(t *testing.T) {
	for _, e := range possible() {
		b := codec.Event(e)
		for n := range b {
			checkNoEvent(t, b[:n])
		}
		for _, c := range []byte{0, 1, 2, 'a', 0xff} {
			checkNoEvent(t, append(slices.Clone(b), c))
			checkNoEvent(t, append(slices.Clone(b), c, 0))
		}
		checkNoEvent(t, slices.Repeat(b, 2))
		for i := range b {
			fewer := slices.Delete(slices.Clone(b), i, i+1)
			want, ok := modelReadEvent(fewer)
			checkReadEvent(t, fewer, want, ok)
			more := slices.Insert(slices.Clone(b), i, b[i])
			want, ok = modelReadEvent(more)
			checkReadEvent(t, more, want, ok)
		}
	}
}

// Each first byte, ahead of nothing, and of what may follow one of the eight.
func TestReadEventOfEachFirstByte(t *testing.T) {
	for first := range 256 {
		if first == 0 {
			checkReadEvent(t, []byte{0}, api.Event{}, true)
		} else {
			checkNoEvent(t, []byte{byte(first)})
		}
		for what := api.Tick; what < api.Whats; what++ {
			b := codec.Event(full(what))
			b[0] = byte(first)
			if first >= 8 {
				checkNoEvent(t, b)
			}
			want, ok := modelReadEvent(b)
			checkReadEvent(t, b, want, ok)
		}
		for n := range 40 {
			b := append([]byte{byte(first)}, make([]byte, n)...)
			want, ok := modelReadEvent(b)
			checkReadEvent(t, b, want, ok)
		}
	}
}

// holdBytes are those of a Hold whose owner has another length than they tell.
func holdBytes(length int, owner string, m api.Mac) []byte {
	b := append(ofHex("01 0a010203"), byte(length))
	b = append(b, owner...)
	return append(b, m[:]...)
}

func TestReadEventOfOwners(t *testing.T) {
	for _, owner := range []string{"", "A", "aB", "a-b", "a b", " a", "a ", "a\n", "\n", "\x00", "a\x00", "é", "\xff", "abcdefghi", "123456789", "abcdefgH", "Z", "`", "{", "/", ":", "@", "["} {
		checkNoEvent(t, holdBytes(len(owner), owner, one))
	}
	for n := range 256 {
		owner := strings.Repeat("w", n)
		b := holdBytes(n, owner, one)
		if n >= 1 && n <= 8 {
			checkReadEvent(t, b, hold(0x0a010203, owner, one), true)
		} else {
			checkNoEvent(t, b)
		}
	}
	for place := range 8 {
		for c := range 256 {
			owner := []byte("owner123")
			owner[place] = byte(c)
			b := holdBytes(8, string(owner), one)
			if strings.Contains("abcdefghijklmnopqrstuvwxyz0123456789", string(rune(c))) {
				checkReadEvent(t, b, hold(0x0a010203, string(owner), one), true)
			} else {
				checkNoEvent(t, b)
			}
		}
	}
}

// The number of an owner's bytes is held against the bytes that there are. The bytes of an owner of 257, 258 and so on tell 1, 2 and so on, but they are not those of an owner that may be.
func TestReadEventOfOwnersOfAnotherLength(t *testing.T) {
	even := api.Mac{'b', 'b', 'b', 'b', 'b', 'b'}
	for length := range 256 {
		for n := range 24 {
			if length == n && n >= 1 && n <= 8 {
				continue
			}
			checkNoEvent(t, holdBytes(length, strings.Repeat("b", n), even))
		}
	}
	for n := 256; n < 270; n++ {
		checkNoEvent(t, holdBytes(n, strings.Repeat("b", n), even))
		checkNoEvent(t, codec.Event(hold(1, strings.Repeat("b", n), even)))
	}
	for length := range 256 {
		checkNoEvent(t, append(ofHex("01 0a010203"), byte(length)))
		checkNoEvent(t, append(ofHex("01 0a010203"), byte(length), 'b'))
	}
}

// A Hold is of one station, or of none; a Saw is of any.
func TestReadEventOfStations(t *testing.T) {
	for place := range 6 {
		for c := range 256 {
			for _, m := range []api.Mac{none, one, {0xfe, 0xff, 0xff, 0xff, 0xff, 0xff}} {
				m[place] = byte(c)
				b := holdBytes(3, "eve", m)
				if m[0]%2 == 0 {
					checkReadEvent(t, b, hold(0x0a010203, "eve", m), true)
				} else {
					checkNoEvent(t, b)
				}
				for from := api.Echo; from < api.Sources; from++ {
					checkReadEvent(t, codec.Event(saw(7, from, m)), saw(7, from, m), true)
				}
			}
		}
	}
	for _, m := range []api.Mac{group, all, {1}, {0xff}} {
		checkNoEvent(t, codec.Event(hold(7, "eve", m)))
		checkReadEvent(t, codec.Event(saw(7, api.Arp, m)), saw(7, api.Arp, m), true)
	}
}

func TestReadEventOfSources(t *testing.T) {
	for from := range 256 {
		b := append(ofHex("05 00000007"), byte(from))
		b = append(b, one[:]...)
		if from < 4 {
			checkReadEvent(t, b, saw(7, api.Source(from), one), true)
		} else {
			checkNoEvent(t, b)
		}
	}
	for _, from := range []api.Source{-1, 4, 5, 255, -128} {
		checkNoEvent(t, codec.Event(saw(7, from, one)))
	}
}

// The bits of a prefix are a number from 0 to 255, whether it may be or not, and its base is any.
func TestReadEventOfPrefixes(t *testing.T) {
	for bits := range 256 {
		for _, base := range []api.Addr{0, 1, net, lastAddr} {
			for _, what := range []api.What{api.Watch, api.Ignore} {
				e := block(what, base, bits)
				checkReadEvent(t, codec.Event(e), e, true)
			}
		}
	}
}

// What does not fit is read as what is left of it.
func TestReadEventOfNumbersThatDidNotFit(t *testing.T) {
	for _, n := range numbers() {
		checkReadEvent(t, codec.Event(block(api.Watch, net, n)), block(api.Watch, net, int(uint8(n))), true)
		from := api.Source(uint8(n))
		if from < 4 {
			checkReadEvent(t, codec.Event(saw(7, api.Source(n), all)), saw(7, from, all), true)
		} else {
			checkNoEvent(t, codec.Event(saw(7, api.Source(n), all)))
		}
		if uint8(n) == 0 {
			checkReadEvent(t, codec.Event(full(api.What(n))), api.Event{}, true)
		} else if n < 0 || n > 7 {
			checkNoEvent(t, codec.Event(full(api.What(n))))
		}
	}
}

// All rows of up to two bytes, and every change of one byte of each kind of event.
func TestReadEventOfAllBytes(t *testing.T) {
	for c := range 65536 {
		b := []byte{byte(c >> 8), byte(c)}
		want, ok := modelReadEvent(b)
		checkReadEvent(t, b, want, ok)
	}
	for what := api.Tick; what < api.Whats; what++ {
		b := codec.Event(full(what))
		for i := range b {
			for c := range 256 {
				turned := slices.Clone(b)
				turned[i] = byte(c)
				want, ok := modelReadEvent(turned)
				checkReadEvent(t, turned, want, ok)
			}
		}
	}
}

// Rows of very many bytes are no event's.
func TestReadEventOfManyBytes(t *testing.T) {
	for _, n := range []int{255, 256, 257, 268, 300, 65536, 1 << 20} {
		for first := range 9 {
			for _, c := range []byte{0, 8, 'a', 0xff} {
				b := bytes.Repeat([]byte{c}, n)
				b[0] = byte(first)
				checkNoEvent(t, b)
			}
		}
	}
}
