package copies_test

import (
	"fmt"
	"reflect"
	"testing"

	"terrier/api"
	"terrier/copies"
)

var (
	mac   = api.Mac{2, 0, 0, 0, 0, 1}
	other = api.Mac{2, 0, 0, 0, 0, 2}
)

// rich has several elements in each list, with something in each field.
func rich() api.State {
	return api.State{
		Now:     1,
		Seq:     2,
		Holders: []api.Holder{{Addr: 3, Owner: "ann", Mac: mac}, {Addr: 4, Owner: "bob"}},
		Sweeps:  []api.Sweep{{Block: api.Block{Base: 8, Bits: 29}, Due: 6, Next: 7}, {Block: api.Block{Base: 16, Bits: 32}, Due: 1}},
		Known: []api.Known{
			{Addr: 3, Seen: []api.Sight{{From: api.Arp, Mac: mac, At: 10}, {From: api.Lease, At: 11}}},
			{Addr: 5, Seen: []api.Sight{{At: 12}}},
		},
		Probes: []api.Probe{{Addr: 13, ID: 13, Seq: 14, Sent: 15, Tries: 16}, {Addr: 14}},
		Cases:  []api.Case{{Addr: 17, Raised: 18, Ended: 19, Stage: api.Done}, {Addr: 18}},
	}
}

// scribble writes over all of a state's lists, and behind their ends.
func scribble(s api.State) {
	for _, k := range s.Known {
		fill(k.Seen, api.Sight{From: 99, Mac: other, At: 99})
	}
	fill(s.Holders, api.Holder{Addr: 99})
	fill(s.Sweeps, api.Sweep{Due: 99})
	fill(s.Known, api.Known{Addr: 99})
	fill(s.Probes, api.Probe{Addr: 99})
	fill(s.Cases, api.Case{Addr: 99})
}

func fill[T any](list []T, x T) {
	for i := range list[:cap(list)] {
		list[:cap(list)][i] = x
	}
}

func TestStateIsTheSame(t *testing.T) {
	for _, s := range []api.State{{}, {Now: 5}, {Seq: -1}, {Known: []api.Known{{Addr: 3}}}, {Holders: []api.Holder{}}, rich()} {
		if got := copies.State(s); fmt.Sprintf("%+v", got) != fmt.Sprintf("%+v", s) {
			t.Errorf("State of\n%+v is\n%+v", s, got)
		}
	}
	if !reflect.DeepEqual(copies.State(rich()), rich()) {
		t.Errorf("State is %+v", copies.State(rich()))
	}
}

func TestStateSharesNothing(t *testing.T) {
	given := rich()
	first, second := copies.State(given), copies.State(given)
	if !reflect.DeepEqual(given, rich()) {
		t.Errorf("State changed what it was given to %+v", given)
	}
	scribble(first)
	if !reflect.DeepEqual(given, rich()) || !reflect.DeepEqual(second, rich()) {
		t.Errorf("a copy shares memory with\n%+v or\n%+v", given, second)
	}
	scribble(given)
	if !reflect.DeepEqual(second, rich()) {
		t.Errorf("a copy shares memory with what it was made of: %+v", second)
	}
}

// Lists of one copy do not share memory either: more in one of them is not more in another.
func TestListsOfAStateShareNothing(t *testing.T) {
	s := copies.State(rich())
	fill(s.Known[0].Seen, api.Sight{At: 99})
	if s.Known[1].Seen[0].At != 12 {
		t.Errorf("two addresses share their sightings: %+v", s.Known)
	}
	all := rich().Known[0].Seen[:1] // there is room behind it, which is another's
	s = copies.State(api.State{Known: []api.Known{{Addr: 3, Seen: all}}})
	_ = append(s.Known[0].Seen, api.Sight{At: 99})
	if all[:2][1].At != 11 {
		t.Errorf("a copy has the room behind a list: %+v", all[:2])
	}
}
