package trie_test

import (
	"fmt"
	"math/bits"
	"math/rand"
	"net/netip"
	"slices"
	"strings"
	"testing"

	"terrier/api"
	"terrier/trie"
)

// The model is a map of the library's prefixes, which are looked at one by one.
type model map[netip.Prefix]bool

func show(b api.Block) string {
	return fmt.Sprintf("%d.%d.%d.%d/%d", b.Base>>24, b.Base>>16&255, b.Base>>8&255, b.Base&255, b.Bits)
}

func showAll(list []api.Block) string {
	texts := []string{}
	for _, b := range list {
		texts = append(texts, show(b))
	}
	return "[" + strings.Join(texts, " ") + "]"
}

func block(s string) api.Block { return blockOf(netip.MustParsePrefix(s)) }

func blockOf(p netip.Prefix) api.Block {
	four := p.Addr().As4()
	base := api.Addr(0)
	for _, n := range four {
		base = base*256 + api.Addr(n)
	}
	return api.Block{Base: base, Bits: p.Bits()}
}

func ip(a api.Addr) netip.Addr {
	return netip.AddrFrom4([4]byte{byte(a >> 24), byte(a >> 16), byte(a >> 8), byte(a)})
}

// prefix is a block as the library has it; false: it is not valid.
func prefix(b api.Block) (netip.Prefix, bool) {
	p, err := ip(b.Base).Prefix(b.Bits)
	return p, err == nil && p.Addr() == ip(b.Base)
}

func (m model) put(b api.Block) api.Errno {
	p, ok := prefix(b)
	if !ok {
		return api.ErrArgument
	}
	if m[p] {
		return api.ErrTaken
	}
	m[p] = true
	return 0
}

func (m model) take(b api.Block) api.Errno {
	if !m.has(b) {
		return api.ErrUnknown
	}
	p, _ := prefix(b)
	delete(m, p)
	return 0
}

func (m model) has(b api.Block) bool {
	p, ok := prefix(b)
	return ok && m[p]
}

func (m model) longest(a api.Addr) (api.Block, bool) {
	best := netip.Prefix{}
	for p := range m {
		if p.Contains(ip(a)) && p.Bits() > best.Bits() {
			best = p
		}
	}
	if !best.IsValid() {
		return api.Block{}, false
	}
	return blockOf(best), true
}

func (m model) overlaps(b api.Block) bool {
	q, ok := prefix(b)
	for p := range m {
		if ok && p.Overlaps(q) {
			return true
		}
	}
	return false
}

func (m model) all() []api.Block {
	list := []api.Block{}
	for p := range m {
		list = append(list, blockOf(p))
	}
	slices.SortFunc(list, func(x, y api.Block) int {
		if x.Base == y.Base {
			return x.Bits - y.Bits
		}
		return int(x.Base) - int(y.Base)
	})
	return list
}

func checkModel(t *testing.T, x *trie.Trie, m model, b api.Block) {
	t.Helper()
	checkHas(t, x, b, m.has(b))
	checkOverlaps(t, x, b, m.overlaps(b))
	last := b.Base
	if p, ok := prefix(b); ok {
		last += api.Addr(uint64(1)<<(32-p.Bits()) - 1)
	}
	for _, a := range []api.Addr{b.Base, b.Base - 1, last, last + 1} {
		want, found := m.longest(a)
		if got, ok := x.Longest(a); got != want || ok != found {
			t.Errorf("Longest(%s) = %s, %v; want %s, %v", ip(a), show(got), ok, show(want), found)
		}
	}
}

func checkModelAll(t *testing.T, x *trie.Trie, m model) {
	t.Helper()
	if got, want := x.All(), m.all(); !slices.Equal(got, want) || x.Len() != len(want) {
		t.Errorf("All is %s, Len %d; want %s", showAll(got), x.Len(), showAll(want))
	}
}

// tree is a prefix and all that are within it.
func tree(top api.Block) []api.Block {
	list := []api.Block{top}
	for n := top.Bits + 1; n <= 32; n++ {
		for k := range 1 << (n - top.Bits) {
			list = append(list, api.Block{Base: top.Base + api.Addr(k)<<(32-n), Bits: n})
		}
	}
	return list
}

// Every set of the seven prefixes of a /30, at both ends of all addresses, in the middle and elsewhere, each made from the one before by one Put or Take: as Gray's code has it.
func TestEverySetOfSmallPrefixes(t *testing.T) {
	for _, base := range []string{"0.0.0.0/30", "255.255.255.252/30", "127.255.255.252/30", "128.0.0.0/30", "10.1.2.4/30"} {
		list := tree(block(base))
		asked := append(blocks("0.0.0.0/0 0.0.0.0/1 128.0.0.0/1 10.1.2.0/29 10.1.2.0/30 10.1.2.8/30"), list...)
		checkEverySet(t, list, asked)
	}
}

// The same of the greatest prefixes: of 0, 1 and 2 bits.
func TestEverySetOfGreatPrefixes(t *testing.T) {
	list := blocks("0.0.0.0/0 0.0.0.0/1 128.0.0.0/1 0.0.0.0/2 64.0.0.0/2 128.0.0.0/2 192.0.0.0/2")
	checkEverySet(t, list, append(blocks("0.0.0.0/32 255.255.255.255/32 96.0.0.0/3 10.0.0.0/8"), list...))
}

func checkEverySet(t *testing.T, list, asked []api.Block) {
	t.Helper()
	x, m := &trie.Trie{}, model{}
	for step := range 1 << len(list) {
		if step > 0 {
			b := list[bits.TrailingZeros(uint(step))]
			if m.has(b) {
				checkTake(t, x, b, m.take(b))
			} else {
				checkPut(t, x, b, m.put(b))
			}
		}
		checkModelAll(t, x, m)
		for _, b := range asked {
			checkModel(t, x, m, b)
		}
		if t.Failed() {
			t.Fatalf("step %d: %s", step, showAll(m.all()))
		}
	}
}

// someBlock is a prefix, mostly a valid one; the parts narrow the addresses, so that many of the prefixes meet.
func someBlock(r *rand.Rand, parts api.Addr) api.Block {
	b := api.Block{Base: api.Addr(r.Uint32()) & parts, Bits: r.Intn(33)}
	if r.Intn(20) == 0 {
		return api.Block{Base: b.Base, Bits: r.Intn(80) - 20}
	}
	if r.Intn(20) > 0 {
		b.Base = b.Base >> (32 - b.Bits) << (32 - b.Bits)
	}
	return b
}

func TestRandomCallsAgainstModel(t *testing.T) {
	r := rand.New(rand.NewSource(99))
	for _, parts := range []api.Addr{0xffffffff, 0x80000001, 0xc0000003, 0x0000000f, 0xf0000000, 0x03030303, 0x01010101, 0x00018000} {
		for _, mostly := range []int{3, 5, 8} {
			x, m := &trie.Trie{}, model{}
			for range 400 {
				b := someBlock(r, parts)
				if r.Intn(10) < mostly {
					checkPut(t, x, b, m.put(b))
				} else {
					if there := m.all(); len(there) > 0 && r.Intn(3) > 0 {
						b = there[r.Intn(len(there))]
					}
					checkTake(t, x, b, m.take(b))
				}
				checkModelAll(t, x, m)
				checkModel(t, x, m, b)
				checkModel(t, x, m, someBlock(r, parts))
				if t.Failed() {
					t.Fatalf("parts %#x: %s", uint32(parts), showAll(m.all()))
				}
			}
		}
	}
}

// Many prefixes: all that are within a /16, put from the last one on, and those of an odd length taken.
func TestManyPrefixes(t *testing.T) {
	list := tree(block("10.1.0.0/16"))
	x, m := &trie.Trie{}, model{}
	for i := range list {
		b := list[len(list)-1-i]
		checkPut(t, x, b, m.put(b))
	}
	checkModelAll(t, x, m)
	for _, b := range list {
		if b.Bits%2 == 1 {
			checkTake(t, x, b, m.take(b))
		}
	}
	checkModelAll(t, x, m)
	checkLongest(t, x, "10.1.2.3", "10.1.2.3/32")
	checkTake(t, x, block("10.1.2.3/32"), m.take(block("10.1.2.3/32")))
	checkLongest(t, x, "10.1.2.3", "10.1.2.0/30")
	checkLongest(t, x, "10.0.255.255", "")
	checkLongest(t, x, "10.2.0.0", "")
}
