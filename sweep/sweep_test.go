package sweep_test

import (
	"math"
	"slices"
	"testing"

	"terrier/api"
	"terrier/sweep"
)

const (
	maxSweeps = 16
	lastTick  = 1 << 40
	lastAddr  = api.Addr(0xffffffff)
	first     = api.Addr(0x0a000000)
)

// wrongBlocks are not valid.
var wrongBlocks = []api.Block{
	{Base: first, Bits: -1}, {Base: first, Bits: 33}, {Base: 0, Bits: -1}, {Base: 0, Bits: 33}, {Base: 0, Bits: 64},
	{Base: first, Bits: math.MinInt}, {Base: first, Bits: math.MaxInt}, {Base: 0, Bits: 1<<32 + 32}, {Base: lastAddr, Bits: 33},
	{Base: first + 1, Bits: 31}, {Base: first + 2, Bits: 30}, {Base: first + 1, Bits: 24}, {Base: first + 128, Bits: 24},
	{Base: 1, Bits: 0}, {Base: lastAddr, Bits: 0}, {Base: lastAddr, Bits: 31}, {Base: 0x80000001, Bits: 1}, {Base: first + 256, Bits: 23},
}

// greatBlocks are valid, and have more than 256 addresses.
var greatBlocks = []api.Block{
	{Base: first, Bits: 23}, {Base: first + 512, Bits: 23}, {Base: 0, Bits: 23}, {Base: lastAddr - 511, Bits: 23}, {Base: first, Bits: 22},
	{Base: first, Bits: 8}, {Base: 0x80000000, Bits: 1}, {Base: 0, Bits: 1}, {Base: 0, Bits: 0},
}

func block(base api.Addr, bits int) api.Block { return api.Block{Base: base, Bits: bits} }

// sizeOf is how many addresses a valid prefix has.
func sizeOf(b api.Block) int {
	size := 1
	for range 32 - b.Bits {
		size *= 2
	}
	return size
}

// sweepOf has a Due and a Next that tell the prefix.
func sweepOf(b api.Block) api.Sweep {
	return api.Sweep{Block: b, Due: 1 + int(b.Base>>2)%97, Next: int(b.Base>>2) % sizeOf(b)}
}

func rowOf(bs ...api.Block) []api.Sweep {
	var ss []api.Sweep
	for _, b := range bs {
		ss = append(ss, sweepOf(b))
	}
	return ss
}

// rising has n prefixes of four addresses each, 16 apart; between them, and on both sides, is room.
func rising(n int) []api.Sweep {
	var ss []api.Sweep
	for i := range n {
		ss = append(ss, sweepOf(block(first+api.Addr(16*i), 30)))
	}
	return ss
}

// at is a list in which another sweep stands at a place.
func at(ss []api.Sweep, i int, s api.Sweep) []api.Sweep {
	ss = slices.Clone(ss)
	ss[i] = s
	return ss
}

func withDue(ss []api.Sweep, i, due int) []api.Sweep {
	return at(ss, i, api.Sweep{Block: ss[i].Block, Due: due, Next: ss[i].Next})
}

func withNext(ss []api.Sweep, i, next int) []api.Sweep {
	return at(ss, i, api.Sweep{Block: ss[i].Block, Due: ss[i].Due, Next: next})
}

func withBlock(ss []api.Sweep, i int, b api.Block) []api.Sweep {
	return at(ss, i, api.Sweep{Block: b, Due: ss[i].Due})
}

func checkRight(t *testing.T, ss []api.Sweep, want bool) {
	t.Helper()
	before := slices.Clone(ss)
	for range 2 {
		if got := sweep.Right(ss); got != want {
			t.Errorf("Right(%v) = %v", ss, got)
		}
	}
	if !slices.Equal(ss, before) {
		t.Errorf("Right changed %v to %v", before, ss)
	}
}

func TestMostSize(t *testing.T) {
	if sweep.MostSize != 256 {
		t.Errorf("MostSize = %d", sweep.MostSize)
	}
}

// P14.1: Right

func TestRightByLength(t *testing.T) {
	checkRight(t, nil, true)
	checkRight(t, []api.Sweep{}, true)
	for _, n := range []int{0, 1, 2, 3, 14, 15, 16, 17, 18, 31, 32, 33, 1000} {
		checkRight(t, rising(n), n <= maxSweeps)
	}
}

// One of the prefixes is not valid; its Next is one that it could have.
func TestRightByValidPrefixes(t *testing.T) {
	for _, b := range wrongBlocks {
		checkRight(t, []api.Sweep{{Block: b}}, false)
		checkRight(t, []api.Sweep{{Block: b, Due: 5}}, false)
		checkRight(t, []api.Sweep{{Block: b, Next: -1}}, false)
	}
	for _, n := range []int{1, 2, 3, 15, 16} {
		for i := range n {
			base := rising(n)[i].Block.Base
			for _, b := range []api.Block{block(base+1, 30), block(base+2, 30), block(base+1, 31), block(base, 33), block(base, -1), block(base+1, 24)} {
				checkRight(t, withBlock(rising(n), i, b), false)
			}
			for _, b := range []api.Block{block(base, 28), block(base, 29), block(base, 31), block(base+1, 32), block(base+2, 31), block(base+8, 29), block(base+15, 32)} {
				checkRight(t, withBlock(rising(n), i, b), true)
			}
		}
	}
}

func TestRightBySize(t *testing.T) {
	for _, base := range []api.Addr{0, first, 0x80000000, 0xfffffe00} {
		for bits := 23; bits <= 32; bits++ {
			checkRight(t, []api.Sweep{{Block: block(base, bits)}}, bits >= 24)
		}
	}
	for _, b := range greatBlocks {
		checkRight(t, []api.Sweep{{Block: b}}, false)
		checkRight(t, []api.Sweep{{Block: b, Due: 7, Next: 5}}, false)
	}
	// Each place of a list of prefixes of 256 addresses.
	var row []api.Sweep
	for i := range maxSweeps {
		row = append(row, api.Sweep{Block: block(first+api.Addr(512*i), 24), Due: i, Next: 255 - i})
	}
	checkRight(t, row, true)
	for i := range row {
		checkRight(t, withBlock(row, i, block(row[i].Block.Base, 23)), false)
		checkRight(t, withBlock(row, i, block(row[i].Block.Base+256, 24)), true)
	}
}

func TestRightByBases(t *testing.T) {
	for _, n := range []int{2, 3, 5, 15, 16} {
		ss := rising(n)
		for i := range n - 1 {
			here, next := ss[i], ss[i+1]
			checkRight(t, at(ss, i, next), false)
			checkRight(t, at(ss, i+1, here), false)
			checkRight(t, at(at(ss, i, next), i+1, here), false)
			// One Base, and two sizes: the greater first, and the smaller first.
			checkRight(t, withBlock(ss, i+1, block(here.Block.Base, 31)), false)
			checkRight(t, withBlock(ss, i, block(next.Block.Base, 31)), false)
			checkRight(t, withBlock(ss, i+1, block(here.Block.Base, 29)), false)
		}
		slices.Reverse(ss)
		checkRight(t, ss, false)
		checkRight(t, ss[:2], false)
		checkRight(t, ss[n-2:], false)
	}
	for _, bits := range []int{24, 30, 32} {
		low, high := block(0, bits), block(^api.Addr(0)<<(32-bits), bits)
		under, over := block(0x80000000-low.Base-api.Addr(sizeOf(low)), bits), block(0x80000000, bits)
		checkRight(t, rowOf(low, under, over, high), true)
		checkRight(t, rowOf(high, low), false)
		checkRight(t, rowOf(over, under), false)
		checkRight(t, rowOf(low, over, under, high), false)
		checkRight(t, rowOf(low, high, over), false)
		// Two that are not side by side.
		checkRight(t, rowOf(under, high, under), false)
		checkRight(t, rowOf(under, high, low), false)
	}
}

// The Bases rise, and yet one prefix has addresses of another.
func TestRightByOverlaps(t *testing.T) {
	great := block(first, 28)
	for k := range api.Addr(16) {
		inside, beyond := block(first+k, 32), block(first+16+k, 32)
		checkRight(t, rowOf(great, inside), false)
		checkRight(t, rowOf(great, beyond), true)
		checkRight(t, rowOf(block(first-16, 28), block(first-1, 32)), false)
		checkRight(t, rowOf(block(first-4, 30), great, inside, block(first+32, 28)), false)
		checkRight(t, rowOf(block(first-4, 30), great, beyond, block(first+32, 28)), true)
	}
	checkRight(t, rowOf(great, block(first+15, 32), block(first+16, 32)), false)
	checkRight(t, rowOf(great, block(first+4, 30), block(first+8, 29)), false)
	checkRight(t, rowOf(great, block(first+8, 29)), false)
	checkRight(t, rowOf(block(first, 24), block(first+255, 32)), false)
	checkRight(t, rowOf(block(first, 24), block(first+256, 32)), true)
	// Each place of a full list: prefixes side by side, and one that goes into the next.
	var row []api.Sweep
	for i := range maxSweeps {
		row = append(row, sweepOf(block(first+api.Addr(8*i), 29)))
	}
	checkRight(t, row, true)
	for i := 0; i < maxSweeps; i += 2 {
		checkRight(t, withBlock(row, i, block(row[i].Block.Base, 28)), false)
	}
}

func TestRightByDue(t *testing.T) {
	for _, n := range []int{1, 2, 3, 15, 16} {
		for i := range n {
			for _, due := range []int{0, 1, 7, 1 << 32, lastTick - 1, lastTick} {
				checkRight(t, withDue(rising(n), i, due), true)
			}
			for _, due := range []int{-1, -2, -lastTick, math.MinInt, lastTick + 1, lastTick + 2, 1 << 41, 1 << 62, math.MaxInt} {
				checkRight(t, withDue(rising(n), i, due), false)
			}
		}
	}
	// In no order, and several equal.
	checkRight(t, withDue(withDue(rising(3), 0, 9), 2, 9), true)
	checkRight(t, withDue(withDue(rising(3), 0, lastTick), 2, 0), true)
}

func TestRightByNext(t *testing.T) {
	for bits := 24; bits <= 32; bits++ {
		for _, base := range []api.Addr{0, first, 0xffffff00} {
			row := rowOf(block(base, bits))
			size := sizeOf(row[0].Block)
			for next := -2; next < 300; next++ {
				checkRight(t, withNext(row, 0, next), next >= 0 && next < size)
			}
			for _, next := range []int{math.MinInt, -1 << 32, 1 << 32, 1<<32 + size - 1, math.MaxInt} {
				checkRight(t, withNext(row, 0, next), false)
			}
		}
	}
	for _, n := range []int{2, 3, 15, 16} {
		for i := range n {
			checkRight(t, withNext(rising(n), i, -1), false)
			checkRight(t, withNext(rising(n), i, 0), true)
			checkRight(t, withNext(rising(n), i, 3), true)
			checkRight(t, withNext(rising(n), i, 4), false)
		}
	}
}

func TestRightWithSeveralFaults(t *testing.T) {
	checkRight(t, make([]api.Sweep, 1), false) // all addresses
	checkRight(t, make([]api.Sweep, 17), false)
	checkRight(t, withDue(withNext(rising(2), 1, 4), 0, -1), false)
	checkRight(t, withNext(rising(17), 16, 4), false)
	checkRight(t, []api.Sweep{{Block: block(first, 33), Due: -1, Next: 1}}, false)
}

// Every list of up to three of the prefixes of four addresses.
func TestRightOfEveryShortList(t *testing.T) {
	var blocks []api.Block
	for bits := 30; bits <= 32; bits++ {
		for k := range api.Addr(4) {
			blocks = append(blocks, block(first+k, bits))
		}
	}
	lists := [][]api.Sweep{nil}
	for range 3 {
		var longer [][]api.Sweep
		for _, ss := range lists {
			for _, b := range blocks {
				row := append(slices.Clone(ss), api.Sweep{Block: b})
				longer = append(longer, row)
				checkRight(t, row, modelRight(row))
			}
		}
		lists = longer
	}
}

// modelRight goes through all addresses: each sweep has addresses behind those of the ones ahead of it.
func modelRight(ss []api.Sweep) bool {
	free := uint64(0)
	for _, s := range ss {
		base, size := uint64(s.Block.Base), uint64(sizeOf(s.Block))
		if base < free || base%size != 0 {
			return false
		}
		free = base + size
	}
	return true
}
