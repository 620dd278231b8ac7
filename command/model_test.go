package command_test

import (
	"encoding/hex"
	"math/rand"
	"net/netip"
	"regexp"
	"strings"
	"testing"

	"terrier/api"
	"terrier/command"
)

// The model reads a command by expressions, and by the library.

var (
	anyWords   = regexp.MustCompile(`^([^ ]*)(?: ([^ ]*))?(?: ([^ ]*))?(?: ([^ ]*))?(?: ((?s:.*)))?$`)
	anyOwner   = regexp.MustCompile(`^[0-9a-z]{1,8}$`)
	anyStation = regexp.MustCompile(`^[[:xdigit:]]{2}(?:(?::[[:xdigit:]]{2}){5}|(?:-[[:xdigit:]]{2}){5})$`)
)

// told is what Parse tells: an event, or an error, with its place, or without one: -1.
type told struct {
	event api.Event
	at    int
	err   api.Errno
}

func modelParse(s string) told {
	if len(s) >= 201 {
		return told{at: -1, err: api.ErrRange}
	}
	count := 1 + strings.Count(s, " ")
	m := anyWords.FindStringSubmatch(s)
	what, ok := kinds[m[1]]
	if !ok {
		return told{at: 0, err: api.ErrForm}
	}
	if what == api.Hold && (count < 3 || count > 4) || what != api.Hold && count != 2 {
		most := 2
		if what == api.Hold {
			most = 4
		}
		return told{at: min(count, most), err: api.ErrForm}
	}
	if what == api.Watch || what == api.Ignore {
		p, err := netip.ParsePrefix(m[2])
		if err != nil || !p.Addr().Is4() || p.Masked() != p || p.String() != m[2] {
			return told{at: 1, err: api.ErrForm}
		}
		return told{event: api.Event{What: what, Block: api.Block{Base: modelAddr(p.Addr()), Bits: p.Bits()}}}
	}
	a, err := netip.ParseAddr(m[2])
	if err != nil || !a.Is4() || a.String() != m[2] {
		return told{at: 1, err: api.ErrForm}
	}
	h := api.Holder{Addr: modelAddr(a), Owner: m[3]}
	if what == api.Hold && !anyOwner.MatchString(m[3]) {
		return told{at: 2, err: api.ErrRange}
	}
	if count == 4 {
		b, _ := hex.DecodeString(strings.NewReplacer(":", "", "-", "").Replace(m[4]))
		if !anyStation.MatchString(m[4]) || b[0]%2 == 1 || [6]byte(b) == [6]byte{} {
			return told{at: 3, err: api.ErrForm}
		}
		h.Mac = api.Mac(b)
	}
	return told{event: api.Event{What: what, Holder: h}}
}

func modelAddr(a netip.Addr) api.Addr {
	b := a.As4()
	return api.Addr(b[0])<<24 | api.Addr(b[1])<<16 | api.Addr(b[2])<<8 | api.Addr(b[3])
}

func checkModel(t *testing.T, s string) told {
	t.Helper()
	want := modelParse(s)
	switch {
	case want.err == 0:
		checkParsed(t, s, want.event)
	case want.at < 0:
		checkUnplaced(t, s, want.err)
	default:
		checkWrong(t, s, want.at, want.err)
	}
	return want
}

func pick(r *rand.Rand, all ...string) string { return all[r.Intn(len(all))] }

// randomWord is a word as one of a command's, at any place.
func randomWord(r *rand.Rand) string {
	switch r.Intn(6) {
	case 0:
		return pick(r, firstWords()...)
	case 1:
		return pick(r, oneText, "0.0.0.0", "255.255.255.255", "1.2.3.4", pick(r, wrongAddresses...))
	case 2:
		return pick(r, blockText, "0.0.0.0/0", "10.0.0.1/32", "10.0.0.1/31", "10.0.0.0/33")
	case 3:
		return pick(r, "ann", "b", "abcdefgh", "abcdefghi", "Ann", "")
	case 4:
		return pick(r, stationText, "02-00-00-00-00-0B", pick(r, wrongStations...))
	}
	return pick(r, "", "x", "tick", "saw")
}

// randomCommand is one that is right, mostly.
func randomCommand(r *rand.Rand) string {
	words := []string{pick(r, firstWords()...)}
	if ofBlock(words[0]) {
		bits := r.Intn(33)
		words = append(words, command.Text(api.Event{What: api.Watch, Block: api.Block{Base: api.Addr(r.Uint32()) &^ (1<<(32-bits) - 1), Bits: bits}})[len("watch "):])
	} else {
		words = append(words, command.Text(api.Event{What: api.Drop, Holder: api.Holder{Addr: api.Addr(r.Uint32())}})[len("drop "):])
	}
	if words[0] == "hold" {
		words = append(words, randomOwner(r))
		if r.Intn(2) == 0 {
			words = append(words, randomStation(r))
		}
	}
	for range r.Intn(3) {
		if i := r.Intn(len(words)); r.Intn(3) == 0 {
			words[i] = randomWord(r)
		}
	}
	if r.Intn(10) == 0 {
		words = append(words, randomWord(r))
	}
	return strings.Join(words, " ")
}

func randomOwner(r *rand.Rand) string {
	const letters = "abcdefghijklmnopqrstuvwxyz0123456789"
	b := make([]byte, 1+r.Intn(8))
	for i := range b {
		b[i] = letters[r.Intn(len(letters))]
	}
	return string(b)
}

func randomStation(r *rand.Rand) string {
	var pairs []string
	for range 6 {
		pairs = append(pairs, hex.EncodeToString([]byte{byte(r.Intn(4) * r.Intn(86))}))
	}
	s := strings.Join(pairs, pick(r, ":", "-"))
	if r.Intn(2) == 0 {
		s = strings.ToUpper(s)
	}
	return s
}

// randomChange alters a byte, or a few.
func randomChange(r *rand.Rand, s string) string {
	for range r.Intn(3) {
		i := r.Intn(len(s) + 1)
		b := pick(r, " ", "0", "1", ".", "/", ":", "-", "a", "A", "f", "\n", "\x80", string([]byte{byte(r.Intn(256))}))
		switch r.Intn(3) {
		case 0:
			s = s[:i] + b + s[i:]
		case 1:
			s = s[:i] + s[min(i+1, len(s)):]
		default:
			s = s[:i] + b + s[min(i+1, len(s)):]
		}
	}
	return s
}

func TestRandomCommandsAgainstModel(t *testing.T) {
	r := rand.New(rand.NewSource(17))
	counts := map[told]int{}
	for range 60000 {
		x := checkModel(t, randomChange(r, randomCommand(r)))
		x.event = api.Event{What: x.event.What}
		counts[x]++
	}
	// Every event and every error is among them.
	for _, x := range []told{{at: 0, err: api.ErrForm}, {at: 1, err: api.ErrForm}, {at: 2, err: api.ErrForm}, {at: 2, err: api.ErrRange}, {at: 3, err: api.ErrForm}, {at: 4, err: api.ErrForm}} {
		if counts[x] < 100 {
			t.Error(x, counts[x])
		}
	}
	for _, what := range kinds {
		if n := counts[told{event: api.Event{What: what}}]; n < 100 {
			t.Error(what, n)
		}
	}
}

func TestRandomWordsAgainstModel(t *testing.T) {
	r := rand.New(rand.NewSource(171))
	for range 60000 {
		words := make([]string, r.Intn(7))
		for i := range words {
			words[i] = randomWord(r)
		}
		checkModel(t, strings.Join(words, " "))
	}
}

func TestRandomBytesAgainstModel(t *testing.T) {
	r := rand.New(rand.NewSource(1717))
	for range 20000 {
		b := make([]byte, r.Intn(260))
		r.Read(b)
		checkModel(t, string(b))
		checkModel(t, pick(r, firstWords()...)+" "+string(b))
	}
}

// Every event of a command is that of its text, and the text, where it was written so, that of its event.
func TestRandomEventsThereAndBack(t *testing.T) {
	r := rand.New(rand.NewSource(71))
	for range 20000 {
		e := randomEvent(r)
		s := command.Text(e)
		checkParsed(t, s, e)
		if want := modelParse(s); want != (told{event: e}) {
			t.Errorf("Text(%v) = %q, which is %v", e, s, want)
		}
		if back, _ := command.Parse(s); command.Text(back) != s {
			t.Errorf("%q is %q", s, command.Text(back))
		}
	}
}

func randomEvent(r *rand.Rand) api.Event {
	word := pick(r, firstWords()...)
	e := api.Event{What: kinds[word]}
	if ofBlock(word) {
		bits := r.Intn(33)
		e.Block = api.Block{Base: api.Addr(r.Uint32()) &^ (1<<(32-bits) - 1), Bits: bits}
		return e
	}
	e.Holder.Addr = api.Addr(r.Uint32())
	if word == "hold" {
		e.Holder.Owner = randomOwner(r)
		if r.Intn(2) == 0 {
			e.Holder.Mac = api.Mac{byte(2 * r.Intn(128)), byte(r.Intn(256)), byte(r.Intn(256)), 0, byte(r.Intn(16)), byte(1 + r.Intn(255))}
		}
	}
	return e
}

// An event of any numbers and texts has a text if its What is a command's, and that tells only what its command tells.
func TestRandomEventsThatAreNotValid(t *testing.T) {
	r := rand.New(rand.NewSource(7171))
	for range 20000 {
		e := randomEvent(r)
		e.Sight = api.Sight{From: api.Source(r.Intn(9) - 2), Mac: api.Mac{byte(r.Intn(256))}, At: r.Int() - r.Int()}
		e.Block = api.Block{Base: api.Addr(r.Uint32()), Bits: r.Intn(50) - 8}
		e.Holder = api.Holder{Addr: api.Addr(r.Uint32()), Owner: pick(r, "", "Ann", "a b", randomOwner(r)), Mac: api.Mac{byte(r.Intn(256)), byte(r.Intn(256))}}
		e.What = api.What(r.Intn(14) - 3)
		told := e
		told.Sight = api.Sight{}
		switch e.What {
		case api.Hold:
			told.Block = api.Block{}
		case api.Watch, api.Ignore:
			told.Holder = api.Holder{}
		case api.Drop, api.Approve, api.Reject:
			told.Block, told.Holder = api.Block{}, api.Holder{Addr: e.Holder.Addr}
		default:
			checkText(t, e, "")
			continue
		}
		s := command.Text(told)
		checkText(t, e, s)
		// If that is a command at all, it is the one of what is told.
		if x := checkModel(t, s); x.err == 0 && x.event != told {
			t.Errorf("Text(%v) = %q, which is %v", e, s, x.event)
		}
	}
}

// Each byte of right commands is left out, doubled, and altered in all ways.
func TestEveryChangeOfAByteAgainstModel(t *testing.T) {
	for _, s := range []string{"hold 10.0.0.1 ann " + stationText, "hold 0.0.0.0 b", "drop 10.0.0.1", "watch 10.0.0.0/24", "ignore 10.0.0.1/32", "approve 255.0.0.9", "reject 1.2.3.4"} {
		for i := range s {
			checkModel(t, s[:i]+s[i+1:])
			checkModel(t, s[:i])
			checkModel(t, s[i:])
			for c := range 256 {
				checkModel(t, s[:i]+string([]byte{byte(c)})+s[i+1:])
				checkModel(t, s[:i]+string([]byte{byte(c)})+s[i:])
			}
		}
	}
}
