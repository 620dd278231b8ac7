package command_test

import (
	"errors"
	"slices"
	"strings"
	"testing"

	"terrier/api"
	"terrier/command"
)

const (
	oneText     = "10.0.0.1"
	one         = api.Addr(0x0a000001)
	blockText   = "10.0.0.0/24"
	stationText = "02:00:00:00:00:0a"
)

var (
	block   = api.Block{Base: 0x0a000000, Bits: 24}
	station = api.Mac{2, 0, 0, 0, 0, 10}
)

// kinds are what commands have happen, with their words.
var kinds = map[string]api.What{
	"hold": api.Hold, "drop": api.Drop, "watch": api.Watch, "ignore": api.Ignore, "approve": api.Approve, "reject": api.Reject,
}

// firstWords are those that commands begin with.
func firstWords() []string {
	return []string{"hold", "drop", "watch", "ignore", "approve", "reject"}
}

func ofBlock(word string) bool { return word == "watch" || word == "ignore" }

// rest are the words behind a first one that make the shortest command of it.
func rest(word string) string {
	if ofBlock(word) {
		return blockText
	}
	if word == "hold" {
		return oneText + " ann"
	}
	return oneText
}

func eventOf(word string) api.Event {
	if ofBlock(word) {
		return api.Event{What: kinds[word], Block: block}
	}
	if word == "hold" {
		return api.Event{What: api.Hold, Holder: api.Holder{Addr: one, Owner: "ann"}}
	}
	return api.Event{What: kinds[word], Holder: api.Holder{Addr: one}}
}

func checkParsed(t *testing.T, s string, want api.Event) {
	t.Helper()
	for range 2 {
		e, err := command.Parse(s)
		if e != want || err != nil {
			t.Errorf("Parse(%q) = %v, %v; want %v, nil", s, e, err, want)
		}
		at, n, ok := command.Where(err)
		if at != 0 || n != 0 || ok {
			t.Errorf("Where of the nil error of %q is %d, %d, %v", s, at, n, ok)
		}
	}
}

// checkWrong looks for an error at a word, which is a Fault itself.
func checkWrong(t *testing.T, s string, at int, want api.Errno) {
	t.Helper()
	for range 2 {
		e, err := command.Parse(s)
		if e != (api.Event{}) {
			t.Errorf("Parse(%q) = %v with an error", s, e)
		}
		fault, ok := err.(*api.Fault)
		if !ok || fault == nil {
			t.Errorf("Parse(%q): %v is no Fault; want %d at %d", s, err, want, at)
			return
		}
		if fault.At != at {
			t.Errorf("Parse(%q): at %d, want %d", s, fault.At, at)
		}
		checkNumber(t, s, err, want)
		if gotAt, n, ok := command.Where(err); gotAt != at || n != want || !ok {
			t.Errorf("Where of the error of %q is %d, %d, %v; want %d, %d, true", s, gotAt, n, ok, at, want)
		}
		// Who gets the error may change it: the next call's is another one.
		*fault = api.Fault{At: -1, Err: api.ErrOnly}
	}
}

// checkUnplaced looks for an error that is wrapped, but at no word.
func checkUnplaced(t *testing.T, s string, want api.Errno) {
	t.Helper()
	for range 2 {
		e, err := command.Parse(s)
		if e != (api.Event{}) {
			t.Errorf("Parse of %d bytes = %v with an error", len(s), e)
		}
		var fault *api.Fault
		if errors.As(err, &fault) {
			t.Errorf("Parse of %d bytes: a Fault at %d", len(s), fault.At)
		}
		if errors.Unwrap(err) == nil {
			t.Errorf("Parse of %d bytes: %v wraps nothing", len(s), err)
		}
		checkNumber(t, s, err, want)
		if at, n, ok := command.Where(err); at != 0 || n != want || ok {
			t.Errorf("Where of the error of %d bytes is %d, %d, %v; want 0, %d, false", len(s), at, n, ok, want)
		}
	}
}

func checkNumber(t *testing.T, s string, err error, want api.Errno) {
	t.Helper()
	for n := api.Errno(0); n <= api.ErrArgument+1; n++ {
		if errors.Is(err, n) != (n == want) {
			t.Errorf("Parse(%q): errors.Is(%v, %d) is %v", s, err, n, !(n == want))
		}
	}
	if err == nil || err.Error() == "" {
		t.Errorf("Parse(%q): %v has no text", s, err)
	}
}

// P17.1: what a command means

func TestParse(t *testing.T) {
	for _, word := range firstWords() {
		checkParsed(t, word+" "+rest(word), eventOf(word))
	}
	checkParsed(t, "hold 10.0.0.1 ann "+stationText, api.Event{What: api.Hold, Holder: api.Holder{Addr: one, Owner: "ann", Mac: station}})
	checkParsed(t, "hold 0.0.0.0 0", api.Event{What: api.Hold, Holder: api.Holder{Owner: "0"}})
	checkParsed(t, "hold 255.255.255.255 zzzzzzz9 fe-ff-ff-ff-ff-ff",
		api.Event{What: api.Hold, Holder: api.Holder{Addr: 1<<32 - 1, Owner: "zzzzzzz9", Mac: api.Mac{0xfe, 0xff, 0xff, 0xff, 0xff, 0xff}}})
}

func TestParsePrefixes(t *testing.T) {
	for text, want := range map[string]api.Block{
		"0.0.0.0/0": {}, "0.0.0.0/32": {Bits: 32}, "10.0.0.0/19": {Base: 0x0a000000, Bits: 19}, "10.0.32.0/19": {Base: 0x0a002000, Bits: 19},
		"10.0.16.0/20": {Base: 0x0a001000, Bits: 20}, "10.0.0.1/32": {Base: one, Bits: 32}, "128.0.0.0/1": {Base: 1 << 31, Bits: 1},
		"255.255.255.255/32": {Base: 1<<32 - 1, Bits: 32}, "255.255.255.254/31": {Base: 1<<32 - 2, Bits: 31},
	} {
		checkParsed(t, "watch "+text, api.Event{What: api.Watch, Block: want})
		checkParsed(t, "ignore "+text, api.Event{What: api.Ignore, Block: want})
	}
}

func TestParseWrongPrefixes(t *testing.T) {
	for _, text := range []string{
		"", "10.0.0.0", "10.0.0.1", "10.0.0.0/", "/24", "10.0.0.0/33", "10.0.0.0/-1", "10.0.0.0/256", "10.0.0.0/x", "10.0.0.0/024", "0.0.0.0/00",
		"10.0.0.1/24", "10.0.0.1/31", "10.0.16.0/19", "10.0.8.0/20", "0.0.0.1/0", "128.0.0.0/0", "192.0.0.0/1",
		"010.0.0.0/24", "10.00.0.0/24", "10.0.0.00/24", "10.0.0/24", "10.0.0.0.0/24", "256.0.0.0/8", "10.0.0.256/32", "10.0.0.0/24/24",
		"10.0.0.0\t/24", "10.0.0.0/24\n", "ann", "/", "18446744073709551616.0.0.0/8", "10.0.0.0/18446744073709551640",
	} {
		checkWrong(t, "watch "+text, 1, api.ErrForm)
		checkWrong(t, "ignore "+text, 1, api.ErrForm)
	}
}

// wrongAddresses are no addresses.
var wrongAddresses = []string{
	"", ".", "...", "10.0.0", "10.0.0.", ".10.0.0", "10.0.0.0.1", "10.0.0.256", "256.0.0.1", "10.256.0.1", "10.0.999.1", "10.0.0.01", "010.0.0.1", "00.0.0.1",
	"10.0.0.-1", "10.0.0.+1", "10..0.1", "10.0.0.x", "a.b.c.d", "10,0,0,1", "10.0.0.1\n", "\t10.0.0.1", blockText, "10.0.0.1/32", "0.0.0.0/0",
	"18446744073709551626.0.0.1", "0xa.0.0.1", "ann", stationText, "167772161", "10.0.0.1\x00", "１０.0.0.1",
}

func TestParseAddresses(t *testing.T) {
	for text, want := range map[string]api.Addr{
		"0.0.0.0": 0, "255.255.255.255": 1<<32 - 1, "0.0.0.255": 255, "255.0.0.0": 255 << 24, "0.255.0.0": 255 << 16, "0.0.255.0": 255 << 8, "1.2.3.4": 0x01020304, "128.0.0.0": 1 << 31,
	} {
		for _, word := range []string{"drop", "approve", "reject"} {
			checkParsed(t, word+" "+text, api.Event{What: kinds[word], Holder: api.Holder{Addr: want}})
		}
		checkParsed(t, "hold "+text+" bob", api.Event{What: api.Hold, Holder: api.Holder{Addr: want, Owner: "bob"}})
		checkParsed(t, "hold "+text+" bob "+stationText, api.Event{What: api.Hold, Holder: api.Holder{Addr: want, Owner: "bob", Mac: station}})
	}
}

func TestParseWrongAddresses(t *testing.T) {
	for _, text := range wrongAddresses {
		for _, word := range []string{"drop", "approve", "reject"} {
			checkWrong(t, word+" "+text, 1, api.ErrForm)
		}
		for _, end := range []string{" bob", " Bob", " bob " + stationText, " Bob " + stationText, " bob x", " Bob x", " ", "  "} {
			checkWrong(t, "hold "+text+end, 1, api.ErrForm)
		}
	}
}

func TestParseOwners(t *testing.T) {
	for _, owner := range []string{"a", "z", "0", "9", "00000000", "abcdefgh", "12345678", "a1", "1a", "zzzzzzzz", "0a", "hold"} {
		h := api.Holder{Addr: one, Owner: owner}
		checkParsed(t, "hold 10.0.0.1 "+owner, api.Event{What: api.Hold, Holder: h})
		h.Mac = station
		checkParsed(t, "hold 10.0.0.1 "+owner+" "+stationText, api.Event{What: api.Hold, Holder: h})
	}
}

func TestParseWrongOwners(t *testing.T) {
	for _, owner := range []string{
		"", "abcdefghi", "123456789", "A", "Ann", "aNn", "anN", "ABCDEFGH", "ann!", "-", "a-b", "a_b", "a.b", "ann\n", "\tann", "ann\x00", "ä", "ß", "a\xff", "\xff",
		"`", "{", "/", ":", "@", "[", "10.0.0.1", strings.Repeat("a", 100), strings.Repeat("Z", 100), "abcdefgh\n", "１",
	} {
		checkWrong(t, "hold 10.0.0.1 "+owner, 2, api.ErrRange)
		checkWrong(t, "hold 10.0.0.1 "+owner+" "+stationText, 2, api.ErrRange)
		for _, wrong := range wrongStations {
			checkWrong(t, "hold 10.0.0.1 "+owner+" "+wrong, 2, api.ErrRange)
		}
	}
}

// Every byte, alone and at either end of an owner, but the space, which ends it.
func TestParseEveryByteOfAnOwner(t *testing.T) {
	for c := range 256 {
		if c == ' ' {
			continue
		}
		b := string([]byte{byte(c)})
		for _, owner := range []string{b, b + "bcdefgh", "abcdefg" + b} {
			s := "hold 10.0.0.1 " + owner
			if strings.Contains("abcdefghijklmnopqrstuvwxyz0123456789", b) {
				checkParsed(t, s, api.Event{What: api.Hold, Holder: api.Holder{Addr: one, Owner: owner}})
			} else {
				checkWrong(t, s, 2, api.ErrRange)
			}
		}
	}
}

func TestParseStations(t *testing.T) {
	for text, want := range map[string]api.Mac{
		"02:00:00:00:00:01": {2, 0, 0, 0, 0, 1}, "02-00-00-00-00-01": {2, 0, 0, 0, 0, 1}, "00:00:00:00:00:01": {0, 0, 0, 0, 0, 1}, "00-01-00-00-00-00": {0, 1},
		"aa:bb:cc:dd:ee:ff": {0xaa, 0xbb, 0xcc, 0xdd, 0xee, 0xff}, "AA:BB:CC:DD:EE:FF": {0xaa, 0xbb, 0xcc, 0xdd, 0xee, 0xff}, "aA-Bb-cC-Dd-eE-Ff": {0xaa, 0xbb, 0xcc, 0xdd, 0xee, 0xff},
		"fe:ff:ff:ff:ff:ff": {0xfe, 0xff, 0xff, 0xff, 0xff, 0xff}, "02:01:01:01:01:01": {2, 1, 1, 1, 1, 1}, "80:00:00:00:00:00": {0x80}, "02:00:00:00:00:00": {2},
	} {
		checkParsed(t, "hold 10.0.0.1 ann "+text, api.Event{What: api.Hold, Holder: api.Holder{Addr: one, Owner: "ann", Mac: want}})
	}
}

// wrongStations are no numbers of stations, or None, or of groups.
var wrongStations = []string{
	"", "x", "02", "02:00:00:00:00", "02:00:00:00:00:", "02:00:00:00:00:01:", "02:00:00:00:00:01:01", "02:00:00:00:00-01", "02-00:00-00:00-00", "02.00.00.00.00.01", "020000000001",
	"0g:00:00:00:00:01", "02:00:00:00:00:1", "2:00:00:00:00:01", "02:00:00:00:00:001", "02:00:00:00:00:01\n", "\t02:00:00:00:00:01", "02::00:00:00:01", "0200.0000.0001",
	"00:00:00:00:00:00", "00-00-00-00-00-00", "01:00:00:00:00:00", "01:00:00:00:00:01", "01-00-00-00-00-01", "03:00:00:00:00:01", "ff:ff:ff:ff:ff:ff", "FF-FF-FF-FF-FF-FF", "0b:00:00:00:00:00",
	"ann", oneText, blockText, "-", "none",
}

func TestParseWrongStations(t *testing.T) {
	for _, text := range wrongStations {
		checkWrong(t, "hold 10.0.0.1 ann "+text, 3, api.ErrForm)
	}
	// A group's first byte is odd.
	for first := range 256 {
		const digits = "0123456789abcdef"
		s := "hold 10.0.0.1 ann " + string([]byte{digits[first>>4], digits[first&15]}) + ":00:00:00:00:00"
		if first%2 == 0 && first > 0 {
			checkParsed(t, s, api.Event{What: api.Hold, Holder: api.Holder{Addr: one, Owner: "ann", Mac: api.Mac{byte(first)}}})
		} else {
			checkWrong(t, s, 3, api.ErrForm)
		}
	}
}

// The words of the first places are none of one another's.
func TestParseOthersWords(t *testing.T) {
	for _, word := range firstWords() {
		if ofBlock(word) {
			checkWrong(t, word+" "+oneText, 1, api.ErrForm)
		} else if word != "hold" {
			checkWrong(t, word+" "+blockText, 1, api.ErrForm)
			checkWrong(t, word+" "+oneText+" ann", 2, api.ErrForm)
		}
	}
	checkWrong(t, "hold "+blockText+" ann", 1, api.ErrForm)
	checkWrong(t, "hold "+oneText+" "+stationText, 2, api.ErrRange)
	checkWrong(t, "hold "+oneText+" "+stationText+" ann", 2, api.ErrRange)
	checkWrong(t, "hold ann "+oneText, 1, api.ErrForm)
	checkWrong(t, oneText+" hold ann", 0, api.ErrForm)
}

func TestExample(t *testing.T) {
	checkWrong(t, "hold 10.0.0.1 Ann", 2, api.ErrRange)
}

// There is a command for each kind of event but Tick and Saw.
func TestKinds(t *testing.T) {
	for what := range api.Whats {
		has := slices.ContainsFunc(firstWords(), func(word string) bool { return kinds[word] == what })
		if has != (what != api.Tick && what != api.Saw) {
			t.Error(what, has)
		}
	}
}
