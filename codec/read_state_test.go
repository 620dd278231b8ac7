package codec_test

import (
	"slices"
	"testing"

	"terrier/api"
	"terrier/codec"
)

// P19.4, of which ReadState is the other part

func TestReadStateOfStatesThatAreValid(t *testing.T) {
	for _, change := range rights() {
		s := with(change)
		checkReadState(t, codec.State(s), s, true)
		checkReadState(t, modelState(s), s, true)
	}
}

func TestReadStateOfStatesThatAreNotValid(t *testing.T) {
	for _, x := range wrongs() {
		want, ok := api.State{}, false
		if x.read != nil {
			want, ok = with(x.read), true
		}
		if got, gotOK := codec.ReadState(codec.State(x.s)); gotOK != ok || !same(got, want) {
			t.Errorf("%s: read as %+v %v", x.why, got, gotOK)
		}
		checkReadState(t, codec.State(x.s), want, ok)
	}
}

// checkAsModel has bytes be read as the model reads them.
func checkAsModel(t *testing.T, b []byte) bool {
	t.Helper()
	want, ok := modelReadState(b)
	checkReadState(t, b, want, ok)
	return ok
}

func TestReadStateOfNumbers(t *testing.T) {
	for _, n := range numbers() {
		checkAsModel(t, codec.State(numbered(n)))
		for _, s := range numberedOneByOne(n) {
			ok := checkAsModel(t, codec.State(s))
			if modelRight(s) {
				checkReadState(t, codec.State(s), s, ok)
			}
		}
	}
}

// The ID of each question is told by its address.
func TestReadStateOfIDs(t *testing.T) {
	for a, id := range map[api.Addr]int{0: 0, 1: 1, 0xff: 255, 0x100: 256, 0xffff: 65535, 0x10000: 0, 0x10001: 1, 0x0a01fffe: 65534, 0x80008000: 0x8000, lastAddr: 65535, 0xffff0000: 0} {
		s, ok := codec.ReadState(codec.State(api.State{Probes: []api.Probe{{Addr: 5, Seq: 9}, {Addr: a, ID: 12345, Seq: 7, Sent: 8, Tries: 3}}}))
		if !ok || len(s.Probes) != 2 || s.Probes[0] != (api.Probe{Addr: 5, ID: 5, Seq: 9}) || s.Probes[1] != (api.Probe{Addr: a, ID: id, Seq: 7, Sent: 8, Tries: 3}) {
			t.Errorf("%d: %+v %v", a, s.Probes, ok)
		}
	}
	s := longest()
	for i := range s.Probes {
		s.Probes[i].ID = -1
	}
	checkReadState(t, codec.State(s), longest(), true)
}

func TestReadStateOfNoBytes(t *testing.T) {
	checkNoState(t, nil)
	checkNoState(t, []byte{})
	if s, ok := codec.ReadState(nil); !same(s, api.State{}) || ok {
		t.Error(s, ok)
	}
	for n := range 20 {
		checkNoState(t, make([]byte, n))
	}
	checkReadState(t, make([]byte, 20), api.State{}, true)
	for n := 21; n < 200; n++ {
		checkNoState(t, make([]byte, n))
	}
}

// samples are states of many shapes.
func samples() []api.State {
	rich := rich()
	return []api.State{
		{}, rich, oneOfEach(), longest(),
		{Now: 1, Seq: 1, Holders: rich.Holders}, {Sweeps: rich.Sweeps}, {Known: rich.Known}, {Probes: rich.Probes}, {Cases: rich.Cases},
		{Known: rich.Known[:1]}, {Holders: rich.Holders[:1], Cases: rich.Cases[:1]},
	}
}

// Bytes that are too few, from any place on, and bytes that are too many.
func TestReadStateOfOtherLengths(t *testing.T) {
	for _, s := range samples() {
		b := codec.State(s)
		for n := range b {
			if _, ok := codec.ReadState(b[:n]); ok {
				t.Fatalf("read %d bytes of %d", n, len(b))
			}
		}
		checkNoState(t, b[:len(b)-1])
		for _, c := range []byte{0, 1, 0xff} {
			checkNoState(t, append(slices.Clone(b), c))
			checkNoState(t, append(slices.Clone(b), c, 0))
			checkNoState(t, append([]byte{c}, b...))
		}
		checkNoState(t, slices.Repeat(b, 2))
	}
}

// One byte is missing, or one more is there, at each place.
func TestReadStateOfOneByteMissingOrMore(t *testing.T) {
	for _, s := range []api.State{{}, rich(), oneOfEach()} {
		b := codec.State(s)
		for i := range b {
			checkAsModel(t, slices.Delete(slices.Clone(b), i, i+1))
			for _, c := range []byte{0, 1, b[i], 'a', 0xff} {
				checkAsModel(t, slices.Insert(slices.Clone(b), i, c))
			}
		}
	}
}

// One byte is turned into each other one, at each place: some of these bytes are another valid state's, the others none's.
func TestReadStateOfOneByteTurned(t *testing.T) {
	for _, s := range []api.State{{}, rich(), oneOfEach()} {
		b := codec.State(s)
		valid := 0
		for i := range b {
			for c := range 256 {
				turned := slices.Clone(b)
				turned[i] = byte(c)
				if checkAsModel(t, turned) {
					valid++
				}
			}
		}
		if valid < 256 || valid > len(b)*200 {
			t.Errorf("%d of %d are valid", valid, len(b)*256)
		}
	}
}

// The numbers of elements: other ones than there are, up to the greatest.
func TestReadStateOfOtherNumbersOfElements(t *testing.T) {
	zero := codec.State(api.State{})
	for list := range 5 {
		for _, n := range []int{1, 2, 255, 256, 65535} {
			b := slices.Clone(zero)
			b[10+2*list], b[11+2*list] = byte(n>>8), byte(n)
			checkNoState(t, b)
			checkNoState(t, b[:12+2*list])
		}
	}
	b := codec.State(oneOfEach())
	// Where the numbers stand: of the lists, and of the sightings in the third one.
	places := []int{10, 26, 43, 49, 96, 113}
	for _, place := range places {
		if b[place] != 0 || b[place+1] != 1 && b[place+1] != 3 {
			t.Fatalf("at %d stands %x", place, b[place:place+2])
		}
		for n := range 65536 {
			if n == int(b[place+1]) {
				continue
			}
			more := slices.Clone(b)
			more[place], more[place+1] = byte(n>>8), byte(n)
			if _, ok := codec.ReadState(more); ok {
				t.Fatalf("at %d, %d is read", place, n)
			}
		}
	}
}

// Lists that tell more sightings in each of more addresses than there are bytes.
func TestReadStateOfManyElements(t *testing.T) {
	b := ofHex("0000000000000009 0000 0000 0000 ffff")
	for i := range 97 {
		b = append(b, ofHex("0a0100")...)
		b = append(b, byte(i))
		b = append(b, ofHex("ffff")...)
		checkNoState(t, b)
	}
	checkNoState(t, slices.Repeat([]byte{0xff}, 70000))
	checkNoState(t, append(ofHex("0000000000000009 0000 ffff"), make([]byte, 11*65535+8)...))
	checkNoState(t, append(ofHex("0000000000000009 0000 0000 0000 ffff"), make([]byte, 6*65535+4)...))
}
