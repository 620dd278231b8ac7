package codec

import (
	"terrier/api"
	"terrier/probe"
)

// reader takes one part behind the other off bytes. Where they are too few, all parts are zero from there on.
type reader struct {
	rest  []byte
	short bool
}

// done tells whether there were just as many bytes as were asked for.
func (r *reader) done() bool { return !r.short && len(r.rest) == 0 }

func (r *reader) take(n int) []byte {
	if n > len(r.rest) {
		r.rest, r.short = nil, true
		return nil
	}
	part := r.rest[:n]
	r.rest = r.rest[n:]
	return part
}

func (r *reader) number(size int) int {
	n := 0
	for _, c := range r.take(size) {
		n = n<<8 | int(c)
	}
	return n
}

// readList ends early where bytes are missing, whatever number of elements they tell.
func readList[T any](r *reader, read func(r *reader) T) []T {
	var list []T
	for range r.number(smallBytes) {
		if r.short {
			return nil
		}
		list = append(list, read(r))
	}
	return list
}

func (r *reader) event() api.Event {
	e := api.Event{What: api.What(r.number(oneByte))}
	switch e.What {
	case api.Hold:
		e.Holder = r.holder()
	case api.Drop, api.Approve, api.Reject:
		e.Holder.Addr = r.addr()
	case api.Watch, api.Ignore:
		e.Block = r.block()
	case api.Saw:
		e.Holder.Addr = r.addr()
		e.Sight = r.sighted()
	}
	return e
}

// The parts of a literal are read in the order in which they stand in it.

func (r *reader) state() api.State {
	return api.State{
		Now:     r.number(largeBytes),
		Seq:     r.number(smallBytes),
		Holders: readList(r, (*reader).holder),
		Sweeps:  readList(r, (*reader).sweep),
		Known:   readList(r, (*reader).known),
		Probes:  readList(r, (*reader).probe),
		Cases:   readList(r, (*reader).aCase),
	}
}

func (r *reader) addr() api.Addr { return api.Addr(r.number(addrBytes)) }

func (r *reader) mac() api.Mac {
	m := api.Mac{}
	copy(m[:], r.take(len(m)))
	return m
}

func (r *reader) holder() api.Holder {
	return api.Holder{Addr: r.addr(), Owner: r.owner(), Mac: r.mac()}
}

func (r *reader) owner() string { return string(r.take(r.number(oneByte))) }

func (r *reader) block() api.Block {
	return api.Block{Base: r.addr(), Bits: r.number(oneByte)}
}

func (r *reader) sweep() api.Sweep {
	return api.Sweep{Block: r.block(), Due: r.number(largeBytes), Next: r.number(smallBytes)}
}

func (r *reader) known() api.Known {
	return api.Known{Addr: r.addr(), Seen: readList(r, (*reader).sight)}
}

func (r *reader) sight() api.Sight {
	s := r.sighted()
	s.At = r.number(largeBytes)
	return s
}

// sighted is a sighting without its tick.
func (r *reader) sighted() api.Sight {
	return api.Sight{From: api.Source(r.number(oneByte)), Mac: r.mac()}
}

func (r *reader) probe() api.Probe {
	p := api.Probe{Addr: r.addr(), Seq: r.number(smallBytes), Sent: r.number(largeBytes), Tries: r.number(oneByte)}
	// Only the ID is taken from the question that is made here: its Sent would be clamped, and a state that may not be would seem to be one.
	p.ID = probe.Of(p.Addr, 0, 0).ID
	return p
}

func (r *reader) aCase() api.Case {
	return api.Case{Addr: r.addr(), Raised: r.number(largeBytes), Ended: r.number(largeBytes), Stage: api.Stage(r.number(oneByte))}
}
