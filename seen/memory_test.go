package seen_test

import (
	"slices"

	"terrier/api"
)

var scribble = api.Sight{From: 77, Mac: api.Mac{7, 7, 7, 7, 7, 7}, At: -77}

// memory is all that a list and the sightings in it stand in, with the room behind each of them.
type memory struct {
	row  []api.Known
	seen [][]api.Sight
}

// laidOut is a list that has room behind it, and behind the sightings of each address.
func laidOut(ks []api.Known) ([]api.Known, memory) {
	var all memory
	for _, k := range ks {
		ss := append(slices.Clone(k.Seen), sightOf(1), sightOf(2), sightOf(3))
		all.seen = append(all.seen, ss)
		all.row = append(all.row, api.Known{Addr: k.Addr, Seen: ss[:len(k.Seen)]})
	}
	all.row = append(all.row, knownOf(1), knownOf(2), knownOf(3))
	return all.row[:len(ks)], all
}

func (m memory) copied() memory {
	var seen [][]api.Sight
	for _, ss := range m.seen {
		seen = append(seen, slices.Clone(ss))
	}
	return memory{deep(m.row), seen}
}

func (m memory) equal(other memory) bool {
	return equal(m.row, other.row) && slices.EqualFunc(m.seen, other.seen, slices.Equal)
}

// fill writes over all of it, the sightings first.
func (m memory) fill() {
	for _, ss := range m.seen {
		fillSights(ss)
	}
	fill(m.row)
}

// fill writes over a list, the sightings in it, and the room behind them.
func fill(ks []api.Known) {
	ks = ks[:cap(ks)]
	for i := range ks {
		fillSights(ks[i].Seen)
		ks[i] = api.Known{Addr: 77, Seen: []api.Sight{scribble}}
	}
}

func fillSights(ss []api.Sight) {
	fillWith(ss, scribble)
}

func fillWith(ss []api.Sight, mark api.Sight) {
	ss = ss[:cap(ss)]
	for i := range ss {
		ss[i] = mark
	}
}

// apart tells whether no address's sightings are in memory that another's are in, too: it writes other marks over each of them, and asks whether they are all there.
func apart(ks []api.Known) bool {
	for i := range ks {
		fillWith(ks[i].Seen, api.Sight{At: i})
	}
	for i := range ks {
		for _, s := range ks[i].Seen {
			if s.At != i {
				return false
			}
		}
	}
	return true
}
