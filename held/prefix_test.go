package held_test

import (
	"math"
	"math/rand"
	"slices"
	"testing"

	"terrier/api"
	"terrier/held"
)

var wrongBlocks = []api.Block{
	{Base: 0, Bits: -1}, {Base: 0, Bits: 33}, {Base: 100, Bits: -1}, {Base: 100, Bits: 33}, {Base: 100, Bits: 64}, {Base: 100, Bits: -32},
	{Base: 100, Bits: math.MinInt}, {Base: 100, Bits: math.MaxInt}, {Base: 0, Bits: 1<<32 + 32}, {Base: lastAddr, Bits: 33},
	{Base: 1, Bits: 0}, {Base: 100, Bits: 0}, {Base: 0x80000000, Bits: 0}, {Base: lastAddr, Bits: 0}, {Base: 0x40000000, Bits: 1}, {Base: 100, Bits: 1},
	{Base: 101, Bits: 31}, {Base: 1, Bits: 31}, {Base: lastAddr, Bits: 31}, {Base: 102, Bits: 30}, {Base: 100, Bits: 29},
}

// modelHas tells whether an address is a valid prefix's: one of the size numbers from its Base on.
func modelHas(b api.Block, a api.Addr) bool {
	first := uint64(b.Base)
	return uint64(a) >= first && uint64(a) < first+modelSize(b)
}

func modelSize(b api.Block) uint64 { return 1 << (32 - b.Bits) }

func modelUsed(hs []api.Holder, b api.Block) int {
	n := 0
	for _, h := range hs {
		if modelHas(b, h.Addr) {
			n++
		}
	}
	return n
}

// modelNext asks address by address; 49 of them can't all have a holder.
func modelNext(hs []api.Holder, b api.Block) (api.Addr, bool) {
	for k := range modelSize(b) {
		a := b.Base + api.Addr(k)
		if !slices.ContainsFunc(hs, func(h api.Holder) bool { return h.Addr == a }) {
			return a, true
		}
	}
	return 0, false
}

func checkUsed(t *testing.T, hs []api.Holder, b api.Block, want int) {
	t.Helper()
	before := slices.Clone(hs)
	if got := held.Used(hs, b); got != want {
		t.Errorf("Used(%v, %v) = %d, want %d", hs, b, got, want)
	}
	if !slices.Equal(hs, before) {
		t.Errorf("Used changed %v to %v", before, hs)
	}
}

func checkNext(t *testing.T, hs []api.Holder, b api.Block, want api.Addr, wantOK bool) {
	t.Helper()
	before := slices.Clone(hs)
	if a, ok := held.Next(hs, b); a != want || ok != wantOK {
		t.Errorf("Next(%v, %v) = %d, %v, want %d, %v", hs, b, a, ok, want, wantOK)
	}
	if !slices.Equal(hs, before) {
		t.Errorf("Next changed %v to %v", before, hs)
	}
}

// checkPrefix holds both against their models.
func checkPrefix(t *testing.T, hs []api.Holder, b api.Block) {
	t.Helper()
	checkUsed(t, hs, b, modelUsed(hs, b))
	a, ok := modelNext(hs, b)
	checkNext(t, hs, b, a, ok)
}

// from is n addresses, one after the other.
func from(a api.Addr, n int) []api.Addr {
	var as []api.Addr
	for k := range n {
		as = append(as, a+api.Addr(k))
	}
	return as
}

// P11.3

func TestExample(t *testing.T) {
	checkNext(t, rowOf(0x0a000000), api.Block{Base: 0x0a000000, Bits: 31}, 0x0a000001, true)
}

func TestPrefixOfAllAddresses(t *testing.T) {
	all := api.Block{}
	checkNext(t, nil, all, 0, true)
	checkUsed(t, nil, all, 0)
	checkNext(t, rowOf(0), all, 1, true)
	checkNext(t, rowOf(1), all, 0, true)
	checkNext(t, rowOf(lastAddr), all, 0, true)
	checkUsed(t, rowOf(0, 1, 0x7fffffff, 0x80000000, lastAddr), all, 5)
	checkNext(t, rowOf(from(0, 47)...), all, 47, true)
	checkNext(t, rowOf(from(0, 48)...), all, 48, true)
	checkUsed(t, rowOf(from(0, 48)...), all, 48)
	checkNext(t, rowOf(from(lastAddr-47, 48)...), all, 0, true)
	checkUsed(t, rowOf(from(lastAddr-47, 48)...), all, 48)
}

func TestPrefixesOfOneBit(t *testing.T) {
	lower, upper := api.Block{Base: 0, Bits: 1}, api.Block{Base: 0x80000000, Bits: 1}
	hs := rowOf(0, 1, 0x7ffffffe, 0x7fffffff, 0x80000000, 0x80000001, 0x80000002, lastAddr)
	checkUsed(t, hs, lower, 4)
	checkUsed(t, hs, upper, 4)
	checkNext(t, hs, lower, 2, true)
	checkNext(t, hs, upper, 0x80000003, true)
	checkUsed(t, nil, upper, 0)
	checkNext(t, nil, lower, 0, true)
	checkNext(t, nil, upper, 0x80000000, true)
	checkNext(t, rowOf(from(0x80000000, 48)...), upper, 0x80000030, true)
	checkNext(t, rowOf(from(0x80000000, 48)...), lower, 0, true)
	// Just outside of the one, and within the other.
	checkUsed(t, rowOf(0x80000000), lower, 0)
	checkUsed(t, rowOf(0x7fffffff), upper, 0)
	checkNext(t, rowOf(0x7fffffff), upper, 0x80000000, true)
}

func TestPrefixesOfTwoAddressesAndOfOne(t *testing.T) {
	for _, base := range []api.Addr{0, 2, 100, 0x7ffffffe, 0x80000000, 0x0a000000, lastAddr - 1} {
		two, first, second := api.Block{Base: base, Bits: 31}, api.Block{Base: base, Bits: 32}, api.Block{Base: base + 1, Bits: 32}
		for _, c := range []struct {
			as         []api.Addr
			used       int
			next       api.Addr
			ok         bool
			one, other bool // whether the first, and the second, has a holder
		}{
			{nil, 0, base, true, false, false},
			{[]api.Addr{base}, 1, base + 1, true, true, false},
			{[]api.Addr{base + 1}, 1, base, true, false, true},
			{[]api.Addr{base, base + 1}, 2, 0, false, true, true},
		} {
			hs := rowOf(c.as...)
			checkUsed(t, hs, two, c.used)
			checkNext(t, hs, two, c.next, c.ok)
			checkOne(t, hs, first, c.one)
			checkOne(t, hs, second, c.other)
		}
	}
}

// checkOne asks of a prefix that is one address.
func checkOne(t *testing.T, hs []api.Holder, b api.Block, taken bool) {
	t.Helper()
	if taken {
		checkUsed(t, hs, b, 1)
		checkNext(t, hs, b, 0, false)
	} else {
		checkUsed(t, hs, b, 0)
		checkNext(t, hs, b, b.Base, true)
	}
}

func TestPrefixesOfWhichAllIsHeld(t *testing.T) {
	for _, base := range []api.Addr{0, 0x0a000000, 0x80000000, lastAddr - 31} {
		for bits := 27; bits <= 32; bits++ { // 32 addresses to 1
			b := api.Block{Base: base, Bits: bits}
			size := int(modelSize(b))
			as := from(base, size)
			checkUsed(t, rowOf(as...), b, size)
			checkNext(t, rowOf(as...), b, 0, false)
			for i, a := range as {
				hs := without(rowOf(as...), i)
				checkUsed(t, hs, b, size-1)
				checkNext(t, hs, b, a, true)
			}
		}
	}
	// More than all of it, up to a full list.
	hs := rowOf(from(0x0a000000-8, 48)...)
	checkNext(t, hs, api.Block{Base: 0x0a000000, Bits: 27}, 0, false)
	checkUsed(t, hs, api.Block{Base: 0x0a000000, Bits: 27}, 32)
	checkNext(t, hs, api.Block{Base: 0x0a000000, Bits: 26}, 0x0a000028, true)
	checkUsed(t, hs, api.Block{Base: 0x0a000000, Bits: 26}, 40)
}

func TestHoldersJustOutsideOfAPrefix(t *testing.T) {
	for bits := 2; bits <= 32; bits++ {
		size := api.Addr(1) << (32 - bits)
		b := api.Block{Base: 2 * size, Bits: bits}
		checkUsed(t, rowOf(b.Base-1, b.Base+size), b, 0)
		checkNext(t, rowOf(b.Base-1, b.Base+size), b, b.Base, true)
		checkUsed(t, rowOf(b.Base-2, b.Base-1, b.Base), b, 1)
		checkUsed(t, rowOf(b.Base, b.Base+size, b.Base+size+1), b, 1)
		// What is outside of it does not count for the first address that is free.
		checkPrefix(t, rowOf(b.Base-2, b.Base-1, b.Base, b.Base+size, b.Base+size+1), b)
	}
	// Those at the other end of all addresses.
	first, last := api.Block{Base: 0, Bits: 31}, api.Block{Base: lastAddr - 1, Bits: 31}
	checkNext(t, rowOf(0, 1, lastAddr), first, 0, false)
	checkNext(t, rowOf(0, lastAddr-1, lastAddr), last, 0, false)
	checkNext(t, rowOf(0, lastAddr-1), last, lastAddr, true)
	checkUsed(t, rowOf(0, lastAddr-1, lastAddr), last, 2)
	checkUsed(t, rowOf(0, 1, lastAddr), first, 2)
	checkNext(t, rowOf(0, lastAddr), api.Block{Base: lastAddr, Bits: 32}, 0, false)
}

func TestPrefixesThatAreNotValid(t *testing.T) {
	for _, b := range wrongBlocks {
		for _, hs := range [][]api.Holder{nil, rowOf(0), rowOf(lastAddr), rowOf(0, 1, 2, 3), rowOf(100, 101, 102), rowOf(0, 1, 100, 101, 0x80000000, lastAddr), rising(48), rowOf(from(0, 48)...)} {
			checkUsed(t, hs, b, 0)
			checkNext(t, hs, b, 0, false)
		}
	}
}

// Every set of eight addresses, and every prefix that is within them or beside them.
func TestEverySetOfEightAddresses(t *testing.T) {
	for _, base := range []api.Addr{0, 0x0a000008, 0x7ffffff8, 0x80000000, lastAddr - 7} {
		for set := range 1 << 8 {
			var as []api.Addr
			for k := range 8 {
				if set>>k&1 == 1 {
					as = append(as, base+api.Addr(k))
				}
			}
			hs := rowOf(as...)
			for bits := 28; bits <= 32; bits++ {
				size := api.Addr(1) << (32 - bits)
				for a := base &^ 15; ; a += size {
					checkPrefix(t, hs, api.Block{Base: a, Bits: bits})
					if a+size-1 == base|15 {
						break
					}
				}
			}
		}
	}
}

func TestRandomListsAndPrefixesAgainstModel(t *testing.T) {
	r := rand.New(rand.NewSource(113))
	for range 3000 {
		span := []int{49, 70, 200, 1 << 32}[r.Intn(4)]
		start := []api.Addr{0, 0x0a000000, lastAddr - 48, api.Addr(r.Uint32())}[r.Intn(4)]
		model := map[api.Addr]api.Holder{}
		for range r.Intn(49) {
			a := start + api.Addr(r.Intn(span))
			model[a] = holderOf(a)
		}
		hs := sorted(model)
		for bits := range 33 {
			a := start + api.Addr(r.Intn(span))
			size := uint64(1) << (32 - bits)
			checkPrefix(t, hs, api.Block{Base: api.Addr(uint64(a) / size * size), Bits: bits})
		}
	}
}

// Lists that are not valid: whatever is answered, no call panics, and each one ends.
func TestListsThatAreNotValid(t *testing.T) {
	lists := [][]api.Holder{
		rising(49), rising(1000), make([]api.Holder, 1), make([]api.Holder, 100), make([]api.Holder, 200000),
		rowOf(5, 5), rowOf(5, 5, 5), rowOf(9, 5), rowOf(9, 5, 9), rowOf(lastAddr, 0), rowOf(lastAddr, lastAddr), rowOf(0, 0, lastAddr, lastAddr),
		withOwner(rising(3), 0, ""), withOwner(rising(3), 2, "Ann"), withOwner(rising(48), 47, "a23456789"), rowOf(from(0, 100000)...),
	}
	down := rising(48)
	slices.Reverse(down)
	lists = append(lists, down)
	r := rand.New(rand.NewSource(1101))
	for range 300 {
		var as []api.Addr
		for range r.Intn(60) {
			as = append(as, api.Addr(r.Intn(40))-20)
		}
		lists = append(lists, rowOf(as...))
	}
	blocks := append([]api.Block{{}, {Bits: 1}, {Base: 0x80000000, Bits: 1}, {Bits: 31}, {Base: 4, Bits: 31}, {Base: 5, Bits: 32}, {Base: lastAddr, Bits: 32}}, wrongBlocks...)
	for _, hs := range lists {
		held.Right(hs)
		for _, a := range []api.Addr{0, 1, 5, 7, 9, 100, 105, 580, lastAddr - 1, lastAddr} {
			held.Get(hs, a)
			held.Put(hs, holderOf(a))
			held.Put(hs, api.Holder{Addr: a})
			held.Take(hs, a)
		}
		for _, b := range blocks {
			held.Used(hs, b)
			held.Next(hs, b)
		}
	}
}
