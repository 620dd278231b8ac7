package ops

import (
	"terrier/api"
	"terrier/cases"
	"terrier/clock"
	"terrier/held"
	"terrier/probe"
	"terrier/seen"
	"terrier/sweep"
	"terrier/wire"
)

// tick has a state be a tick later, and is what is sent then.
func tick(c api.Config, s *api.State) []wire.Packet {
	s.Now = clock.Add(s.Now, 1)
	s.Cases = cases.Tick(c, s.Cases, s.Now)
	giveBack(c, s)
	raise(c, s)
	forget(c, s)
	return ask(c, s)
}

// giveBack ends the cases that were approved, each by itself.
func giveBack(c api.Config, s *api.State) {
	// The list that is gone through stays as it is: others are laid in its place.
	for _, x := range s.Cases {
		if x.Stage == api.Approved {
			settle(c, s, x.Addr)
		}
	}
}

// settle ends the approved case of an address: if it is stale still, it is for nobody from now on.
func settle(c api.Config, s *api.State, a api.Addr) {
	if Status(c, *s, a) != api.Stale {
		cancel(s, a)
		return
	}
	cs, err := cases.Done(s.Cases, a, s.Now)
	replace(&s.Cases, cs, err)
	take(s, a)
}

// raise proposes that stale addresses are given back, but where there is a case, or a no of late, or no room.
func raise(c api.Config, s *api.State) {
	for _, h := range s.Holders {
		if Status(c, *s, h.Addr) == api.Stale {
			cs, err := cases.Raise(c, s.Cases, h.Addr, s.Now)
			replace(&s.Cases, cs, err)
		}
	}
}

// forget drops what is known of addresses that are for nobody, and were not seen of late.
func forget(c api.Config, s *api.State) {
	s.Known = seen.Forget(s.Known, func(a api.Addr) bool {
		_, found := held.Get(s.Holders, a)
		last, ok := seen.Last(s.Known, a)
		return found || ok && clock.Within(s.Now, last, c.Old)
	})
}

// ask sends the questions that are asked again, and, as far as there is room, those of the sweeps.
func ask(c api.Config, s *api.State) []wire.Packet {
	kept, again := probe.Late(c, s.Probes, s.Now, c.Rate)
	s.Probes = kept
	var sent []wire.Packet
	for _, p := range again {
		sent = append(sent, probe.Packet(p))
	}
	room := max(0, min(c.Rate-len(again), api.MaxProbes-len(kept)))
	sweeps, asked := sweep.Plan(c, s.Sweeps, s.Now, room)
	s.Sweeps = sweeps
	for _, a := range asked {
		s.Seq = (s.Seq + 1) % seqs
		p := probe.Of(a, s.Seq, s.Now)
		ps, err := probe.Put(s.Probes, p)
		// Of an address that is asked already, the number and the sweep's turn are used up nevertheless.
		if replace(&s.Probes, ps, err) == 0 {
			sent = append(sent, probe.Packet(p))
		}
	}
	return sent
}
