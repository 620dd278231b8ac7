package command_test

import (
	"math"
	"testing"

	"terrier/api"
	"terrier/command"
)

// P17.2

func checkText(t *testing.T, e api.Event, want string) {
	t.Helper()
	for range 2 {
		if s := command.Text(e); s != want {
			t.Errorf("Text(%v) = %q, want %q", e, s, want)
		}
	}
}

// checkBoth looks for a command and its event: each is the other one's.
func checkBoth(t *testing.T, e api.Event, s string) {
	t.Helper()
	checkText(t, e, s)
	checkParsed(t, s, e)
}

func TestText(t *testing.T) {
	for _, word := range firstWords() {
		checkBoth(t, eventOf(word), word+" "+rest(word))
	}
	checkBoth(t, api.Event{What: api.Hold, Holder: api.Holder{Addr: one, Owner: "ann", Mac: station}}, "hold 10.0.0.1 ann "+stationText)
	checkBoth(t, api.Event{What: api.Hold, Holder: api.Holder{Owner: "0"}}, "hold 0.0.0.0 0")
	checkBoth(t, api.Event{What: api.Hold, Holder: api.Holder{Addr: 1<<32 - 1, Owner: "abcdefgh", Mac: api.Mac{0xfe, 0xff, 0xff, 0xff, 0xff, 0xff}}}, longest)
	checkBoth(t, api.Event{What: api.Hold, Holder: api.Holder{Owner: "b", Mac: api.Mac{5: 1}}}, "hold 0.0.0.0 b 00:00:00:00:00:01")
	checkBoth(t, api.Event{What: api.Hold, Holder: api.Holder{Owner: "b", Mac: api.Mac{1: 1}}}, "hold 0.0.0.0 b 00:01:00:00:00:00")
	checkBoth(t, api.Event{What: api.Drop}, "drop 0.0.0.0")
	checkBoth(t, api.Event{What: api.Approve, Holder: api.Holder{Addr: 1<<32 - 1}}, "approve 255.255.255.255")
	checkBoth(t, api.Event{What: api.Reject, Holder: api.Holder{Addr: 1 << 31}}, "reject 128.0.0.0")
}

func TestTextOfEveryPrefix(t *testing.T) {
	bits := map[int]string{0: "0.0.0.0/0", 1: "128.0.0.0/1", 8: "170.0.0.0/8", 19: "170.170.160.0/19", 20: "170.170.160.0/20", 24: "170.170.170.0/24", 31: "170.170.170.170/31", 32: "170.170.170.170/32"}
	for n, text := range bits {
		b := api.Block{Base: 0xaaaaaaaa &^ (1<<(32-n) - 1), Bits: n}
		checkBoth(t, api.Event{What: api.Watch, Block: b}, "watch "+text)
		checkBoth(t, api.Event{What: api.Ignore, Block: b}, "ignore "+text)
	}
	for n := range 33 {
		for _, base := range []api.Addr{0, 1<<32 - 1, 0x55555555, 0x0a010203} {
			b := api.Block{Base: base &^ (1<<(32-n) - 1), Bits: n}
			for _, what := range []api.What{api.Watch, api.Ignore} {
				e := api.Event{What: what, Block: b}
				checkParsed(t, command.Text(e), e)
			}
		}
	}
}

func TestTextOfOtherEvents(t *testing.T) {
	for _, what := range []api.What{api.Tick, api.Saw, api.Whats, api.Whats + 1, -1, -2, -7, 100, 256 + api.Hold, 1<<32 + api.Hold, math.MaxInt, math.MinInt, math.MinInt + api.Hold} {
		checkText(t, api.Event{What: what}, "")
		checkText(t, api.Event{What: what, Holder: api.Holder{Addr: one, Owner: "ann", Mac: station}, Block: block, Sight: api.Sight{From: api.Arp, Mac: station, At: 7}}, "")
	}
}

// What a command does not tell is not in the text, whatever it is.
func TestTextTellsNothingElse(t *testing.T) {
	full := api.Event{Holder: api.Holder{Addr: one, Owner: "ann", Mac: station}, Block: block, Sight: api.Sight{From: api.Lease, Mac: station, At: 9}}
	for _, word := range firstWords() {
		e := full
		e.What = kinds[word]
		want := word + " " + rest(word)
		if word == "hold" {
			want += " " + stationText
		}
		checkText(t, e, want)
	}
	full.What, full.Holder.Mac = api.Hold, api.Mac{}
	checkText(t, full, "hold 10.0.0.1 ann")
}

// The text of a prefix, an owner or a station that may not be is told as it is: Parse refuses it.
func TestTextOfWhatMayNotBe(t *testing.T) {
	for text, b := range map[string]api.Block{
		"10.0.0.1/24": {Base: one, Bits: 24}, "10.0.0.1/0": {Base: one}, "0.0.0.0/33": {Bits: 33}, "0.0.0.0/-1": {Bits: -1}, "255.255.255.255/31": {Base: 1<<32 - 1, Bits: 31},
		"10.0.0.1/9223372036854775807": {Base: one, Bits: math.MaxInt}, "0.0.0.0/-9223372036854775808": {Bits: math.MinInt},
	} {
		checkText(t, api.Event{What: api.Watch, Block: b}, "watch "+text)
		checkText(t, api.Event{What: api.Ignore, Block: b}, "ignore "+text)
		checkWrong(t, "watch "+text, 1, api.ErrForm)
	}
	for _, owner := range []string{"", "Ann", "abcdefghi", "ä", "\xff", "-"} {
		h := api.Holder{Addr: one, Owner: owner}
		checkText(t, api.Event{What: api.Hold, Holder: h}, "hold 10.0.0.1 "+owner)
		checkWrong(t, "hold 10.0.0.1 "+owner, 2, api.ErrRange)
		h.Mac = station
		checkText(t, api.Event{What: api.Hold, Holder: h}, "hold 10.0.0.1 "+owner+" "+stationText)
	}
	for text, m := range map[string]api.Mac{"01:00:00:00:00:00": {1}, "ff:ff:ff:ff:ff:ff": {0xff, 0xff, 0xff, 0xff, 0xff, 0xff}, "03:00:00:00:00:0b": {3, 0, 0, 0, 0, 11}} {
		checkText(t, api.Event{What: api.Hold, Holder: api.Holder{Addr: one, Owner: "ann", Mac: m}}, "hold 10.0.0.1 ann "+text)
		checkWrong(t, "hold 10.0.0.1 ann "+text, 3, api.ErrForm)
	}
}

// Of the two ways of writing a station, and of either size of its letters, the text is of one.
func TestTextOfParse(t *testing.T) {
	for s, want := range map[string]string{
		"hold 10.0.0.1 ann 02-00-00-00-00-0a": "hold 10.0.0.1 ann 02:00:00:00:00:0a",
		"hold 10.0.0.1 ann 02:00:00:00:00:0A": "hold 10.0.0.1 ann 02:00:00:00:00:0a",
		"hold 10.0.0.1 ann FE-DC-BA-98-76-54": "hold 10.0.0.1 ann fe:dc:ba:98:76:54",
		"hold 10.0.0.1 ann fe:dc:ba:98:76:54": "hold 10.0.0.1 ann fe:dc:ba:98:76:54",
		"hold 10.0.0.1 02":                    "hold 10.0.0.1 02",
		"drop 1.2.3.4":                        "drop 1.2.3.4",
		"approve 1.2.3.4":                     "approve 1.2.3.4",
		"reject 1.2.3.4":                      "reject 1.2.3.4",
		"watch 1.2.3.4/32":                    "watch 1.2.3.4/32",
		"ignore 1.2.0.0/16":                   "ignore 1.2.0.0/16",
	} {
		e, err := command.Parse(s)
		if err != nil {
			t.Errorf("Parse(%q): %v", s, err)
		}
		checkText(t, e, want)
		checkParsed(t, want, e)
	}
}
