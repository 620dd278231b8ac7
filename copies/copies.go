// Package copies has copies of plain data, for the layers that keep it and hand it out.
package copies

import (
	"slices"

	"terrier/api"
)

// State shares no memory with the state that it is a copy of: neither with its lists, nor with the sightings in them.
func State(s api.State) api.State {
	s.Holders = slices.Clone(s.Holders)
	s.Sweeps = slices.Clone(s.Sweeps)
	s.Known = slices.Clone(s.Known)
	for i, k := range s.Known {
		s.Known[i].Seen = slices.Clone(k.Seen)
	}
	s.Probes = slices.Clone(s.Probes)
	s.Cases = slices.Clone(s.Cases)
	return s
}
