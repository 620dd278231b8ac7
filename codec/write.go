package codec

import "terrier/api"

// addNumber adds as many of a number's last bytes as it has, the most significant one first.
func addNumber(b []byte, n, size int) []byte {
	for i := size - 1; i >= 0; i-- {
		b = append(b, byte(n>>(8*i)))
	}
	return b
}

// addList adds how many elements there are, and each of them behind that.
func addList[T any](b []byte, list []T, add func(b []byte, x T) []byte) []byte {
	b = addNumber(b, len(list), smallBytes)
	for _, x := range list {
		b = add(b, x)
	}
	return b
}

func addAddr(b []byte, a api.Addr) []byte { return addNumber(b, int(a), addrBytes) }

func addMac(b []byte, m api.Mac) []byte { return append(b, m[:]...) }

func addHolder(b []byte, h api.Holder) []byte {
	b = addAddr(b, h.Addr)
	b = addNumber(b, len(h.Owner), oneByte)
	b = append(b, h.Owner...)
	return addMac(b, h.Mac)
}

func addBlock(b []byte, x api.Block) []byte {
	return addNumber(addAddr(b, x.Base), x.Bits, oneByte)
}

func addSweep(b []byte, s api.Sweep) []byte {
	b = addBlock(b, s.Block)
	b = addNumber(b, s.Due, largeBytes)
	return addNumber(b, s.Next, smallBytes)
}

func addKnown(b []byte, k api.Known) []byte {
	return addList(addAddr(b, k.Addr), k.Seen, addSight)
}

func addSight(b []byte, s api.Sight) []byte {
	return addNumber(addSighted(b, s), s.At, largeBytes)
}

// addSighted adds a sighting without its tick: an event's is that at which it happens.
func addSighted(b []byte, s api.Sight) []byte {
	return addMac(addNumber(b, int(s.From), oneByte), s.Mac)
}

// addProbe leaves out the ID, which the address tells.
func addProbe(b []byte, p api.Probe) []byte {
	b = addAddr(b, p.Addr)
	b = addNumber(b, p.Seq, smallBytes)
	b = addNumber(b, p.Sent, largeBytes)
	return addNumber(b, p.Tries, oneByte)
}

func addCase(b []byte, c api.Case) []byte {
	b = addAddr(b, c.Addr)
	b = addNumber(b, c.Raised, largeBytes)
	b = addNumber(b, c.Ended, largeBytes)
	return addNumber(b, int(c.Stage), oneByte)
}
