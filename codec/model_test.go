package codec_test

import (
	"bytes"
	"cmp"
	"encoding/binary"
	"regexp"
	"slices"

	"terrier/api"
)

// The model writes and reads by the library's encoding/binary, and tells what is valid by the words of the document, without any of the program.

var ownerForm = regexp.MustCompile(`^[a-z0-9]{1,8}$`)

// modelWriter takes numbers of the sizes that they have in the bytes.
type modelWriter struct{ bytes.Buffer }

func (w *modelWriter) put(parts ...any) {
	for _, p := range parts {
		if err := binary.Write(w, binary.BigEndian, p); err != nil {
			panic(err)
		}
	}
}

func (w *modelWriter) holder(h api.Holder) {
	w.put(uint32(h.Addr), uint8(len(h.Owner)), []byte(h.Owner), h.Mac)
}

// modelEvent is what Event is to be.
func modelEvent(e api.Event) []byte {
	var w modelWriter
	w.put(uint8(e.What))
	if e.What == 1 {
		w.holder(e.Holder)
	}
	if e.What == 2 || e.What == 5 || e.What == 6 || e.What == 7 {
		w.put(uint32(e.Holder.Addr))
	}
	if e.What == 3 || e.What == 4 {
		w.put(uint32(e.Block.Base), uint8(e.Block.Bits))
	}
	if e.What == 5 {
		w.put(uint8(e.Sight.From), e.Sight.Mac)
	}
	return w.Bytes()
}

// modelReadEvent is what ReadEvent is to be: it goes by how many bytes there are, and by where each part stands.
func modelReadEvent(b []byte) (api.Event, bool) {
	if len(b) == 1 && b[0] == 0 {
		return api.Event{}, true
	}
	if len(b) < 5 {
		return api.Event{}, false
	}
	what, a, last := api.What(b[0]), api.Addr(binary.BigEndian.Uint32(b[1:])), len(b)-6
	switch {
	case len(b) == 5 && (what == 2 || what == 6 || what == 7):
		return of(what, a), true
	case len(b) == 6 && (what == 3 || what == 4):
		return block(what, a, int(b[5])), true
	case len(b) == 12 && what == 5 && b[5] < 4:
		return saw(a, api.Source(b[5]), api.Mac(b[last:])), true
	case len(b) > 12 && what == 1 && int(b[5]) == len(b)-12 && ownerForm.Match(b[6:last]) && b[last]%2 == 0:
		return hold(a, string(b[6:last]), api.Mac(b[last:])), true
	}
	return api.Event{}, false
}

// modelState is what State is to be.
func modelState(s api.State) []byte {
	var w modelWriter
	w.put(int64(s.Now), uint16(s.Seq), uint16(len(s.Holders)))
	for _, h := range s.Holders {
		w.holder(h)
	}
	w.put(uint16(len(s.Sweeps)))
	for _, x := range s.Sweeps {
		w.put(uint32(x.Block.Base), uint8(x.Block.Bits), int64(x.Due), uint16(x.Next))
	}
	w.put(uint16(len(s.Known)))
	for _, k := range s.Known {
		w.put(uint32(k.Addr), uint16(len(k.Seen)))
		for _, x := range k.Seen {
			w.put(uint8(x.From), x.Mac, int64(x.At))
		}
	}
	w.put(uint16(len(s.Probes)))
	for _, p := range s.Probes {
		w.put(uint32(p.Addr), uint16(p.Seq), int64(p.Sent), uint8(p.Tries))
	}
	w.put(uint16(len(s.Cases)))
	for _, x := range s.Cases {
		w.put(uint32(x.Addr), int64(x.Raised), int64(x.Ended), uint8(x.Stage))
	}
	return w.Bytes()
}

// The parts as they stand in the bytes.
type (
	sweepBytes struct {
		Base uint32
		Bits uint8
		Due  int64
		Next uint16
	}
	sightBytes struct {
		From uint8
		Mac  [6]byte
		At   int64
	}
	probeBytes struct {
		Addr  uint32
		Seq   uint16
		Sent  int64
		Tries uint8
	}
	caseBytes struct {
		Addr          uint32
		Raised, Ended int64
		Stage         uint8
	}
)

type modelReader struct {
	*bytes.Reader
	failed bool
}

func get[T any](r *modelReader) T {
	var x T
	if !r.failed && binary.Read(r, binary.BigEndian, &x) != nil {
		r.failed = true
	}
	return x
}

// each reads a list's number of elements, and then each of them.
func (r *modelReader) each(one func()) {
	for n := get[uint16](r); n > 0 && !r.failed; n-- {
		one()
	}
}

// modelReadState is what ReadState is to be.
func modelReadState(b []byte) (api.State, bool) {
	r := &modelReader{Reader: bytes.NewReader(b)}
	s := api.State{Now: int(get[int64](r))}
	s.Seq = int(get[uint16](r))
	r.each(func() {
		h := api.Holder{Addr: api.Addr(get[uint32](r))}
		owner := make([]byte, get[uint8](r))
		n, _ := r.Read(owner)
		r.failed = r.failed || n < len(owner)
		h.Owner = string(owner)
		h.Mac = get[[6]byte](r)
		s.Holders = append(s.Holders, h)
	})
	r.each(func() {
		x := get[sweepBytes](r)
		s.Sweeps = append(s.Sweeps, sweepAt(api.Addr(x.Base), int(x.Bits), int(x.Due), int(x.Next)))
	})
	r.each(func() {
		k := known(api.Addr(get[uint32](r)))
		r.each(func() {
			x := get[sightBytes](r)
			k.Seen = append(k.Seen, sight(api.Source(x.From), x.Mac, int(x.At)))
		})
		s.Known = append(s.Known, k)
	})
	r.each(func() {
		x := get[probeBytes](r)
		s.Probes = append(s.Probes, question(api.Addr(x.Addr), int(x.Seq), int(x.Sent), int(x.Tries)))
	})
	r.each(func() {
		x := get[caseBytes](r)
		s.Cases = append(s.Cases, proposal(api.Addr(x.Addr), int(x.Raised), int(x.Ended), api.Stage(x.Stage)))
	})
	if r.failed || r.Len() > 0 || !modelRight(s) {
		return api.State{}, false
	}
	return s, true
}

// modelRight is what Right is to be.
func modelRight(s api.State) bool {
	return isTick(s.Now) && isWord(s.Seq) && rightHolders(s.Holders) && rightSweeps(s.Sweeps) && rightKnown(s.Known) && rightProbes(s.Probes) && rightCases(s.Cases)
}

func isTick(n int) bool { return n >= 0 && n <= lastTick }

func isWord(n int) bool { return n >= 0 && n <= 65535 }

// rising tells whether addresses stand in their order, each once.
func rising(as []api.Addr) bool {
	row := slices.Compact(slices.Sorted(slices.Values(as)))
	return slices.Equal(row, as)
}

func rightHolders(hs []api.Holder) bool {
	var as []api.Addr
	for _, h := range hs {
		if !ownerForm.MatchString(h.Owner) {
			return false
		}
		as = append(as, h.Addr)
	}
	return len(hs) <= maxHolders && rising(as)
}

func rightSweeps(xs []api.Sweep) bool {
	end := 0 // the first address behind the prefixes before
	for _, x := range xs {
		if x.Block.Bits < 24 || x.Block.Bits > 32 {
			return false
		}
		from, size := int(x.Block.Base), 1<<(32-x.Block.Bits)
		if from%size != 0 || from < end || !isTick(x.Due) || x.Next < 0 || x.Next >= size {
			return false
		}
		end = from + size
	}
	return len(xs) <= maxSweeps
}

func rightKnown(ks []api.Known) bool {
	var as []api.Addr
	for _, k := range ks {
		if len(k.Seen) < 1 || len(k.Seen) > maxSeen || k.Seen[0].At < 0 {
			return false
		}
		if !slices.IsSortedFunc(k.Seen, func(x, y api.Sight) int { return cmp.Compare(x.At, y.At) }) {
			return false
		}
		if slices.ContainsFunc(k.Seen, func(x api.Sight) bool { return x.From < 0 || x.From > 3 }) {
			return false
		}
		as = append(as, k.Addr)
	}
	return len(ks) <= maxKnown && rising(as)
}

func rightProbes(ps []api.Probe) bool {
	asked := map[api.Addr]int{}
	for _, p := range ps {
		asked[p.Addr]++
		if asked[p.Addr] > 1 || p.ID != int(p.Addr)%65536 || !isWord(p.Seq) || !isTick(p.Sent) || p.Tries < 0 || p.Tries > 8 {
			return false
		}
	}
	return len(ps) <= maxProbes
}

func rightCases(cs []api.Case) bool {
	open := map[api.Addr]int{}
	for _, x := range cs {
		if !isTick(x.Raised) || !isTick(x.Ended) {
			return false
		}
		switch x.Stage {
		case 0, 1:
			open[x.Addr]++
			if open[x.Addr] > 1 || x.Ended != 0 {
				return false
			}
		case 2, 3, 4, 5:
			if x.Ended < x.Raised {
				return false
			}
		default:
			return false
		}
	}
	return len(cs) <= maxCases
}
