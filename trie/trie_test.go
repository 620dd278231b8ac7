package trie_test

import (
	"math"
	"runtime"
	"slices"
	"strings"
	"testing"

	"terrier/api"
	"terrier/trie"
)

// with is a Trie of some prefixes, put in the order in which they are written.
func with(t *testing.T, text string) *trie.Trie {
	t.Helper()
	x := &trie.Trie{}
	for _, b := range blocks(text) {
		if e := x.Put(b); e != 0 {
			t.Fatalf("Put(%s) = %d", show(b), e)
		}
	}
	return x
}

func blocks(text string) []api.Block {
	var list []api.Block
	for _, s := range strings.Fields(text) {
		list = append(list, block(s))
	}
	return list
}

func checkAll(t *testing.T, x *trie.Trie, text string) {
	t.Helper()
	want := blocks(text)
	if got := x.All(); !slices.Equal(got, want) {
		t.Errorf("All is %s, want %s", showAll(got), showAll(want))
	}
	if n := x.Len(); n != len(want) {
		t.Errorf("Len is %d, want %d", n, len(want))
	}
}

func checkPut(t *testing.T, x *trie.Trie, b api.Block, want api.Errno) {
	t.Helper()
	if e := x.Put(b); e != want {
		t.Errorf("Put(%s) = %d, want %d", show(b), e, want)
	}
}

func checkTake(t *testing.T, x *trie.Trie, b api.Block, want api.Errno) {
	t.Helper()
	if e := x.Take(b); e != want {
		t.Errorf("Take(%s) = %d, want %d", show(b), e, want)
	}
}

func checkHas(t *testing.T, x *trie.Trie, b api.Block, want bool) {
	t.Helper()
	if ok := x.Has(b); ok != want {
		t.Errorf("Has(%s) = %v", show(b), ok)
	}
}

func checkOverlaps(t *testing.T, x *trie.Trie, b api.Block, want bool) {
	t.Helper()
	if ok := x.Overlaps(b); ok != want {
		t.Errorf("Overlaps(%s) = %v", show(b), ok)
	}
}

// checkLongest: "" stands for no prefix.
func checkLongest(t *testing.T, x *trie.Trie, a, want string) {
	t.Helper()
	b := api.Block{}
	if want != "" {
		b = block(want)
	}
	if got, ok := x.Longest(block(a + "/32").Base); got != b || ok != (want != "") {
		t.Errorf("Longest(%s) = %s, %v; want %q", a, show(got), ok, want)
	}
}

// atTheEdges are prefixes of 0, 1, 31 and 32 bits, and the first and the last address there is, in the order of All.
const atTheEdges = "0.0.0.0/0 0.0.0.0/1 0.0.0.0/31 0.0.0.0/32 0.0.0.1/32 10.0.0.0/31 10.0.0.0/32 10.0.0.1/32 " +
	"127.255.255.254/31 127.255.255.255/32 128.0.0.0/1 128.0.0.0/31 128.0.0.0/32 255.255.255.254/31 255.255.255.254/32 255.255.255.255/32"

const family = "10.0.0.0/8 10.1.0.0/16 10.1.2.0/24 10.1.2.3/32" // each of them within the one ahead of it

var wrongBits = []int{-1, -2, -8, -31, -32, -33, 33, 34, 40, 63, 64, 65, 256, 1 << 32, 1<<32 + 8, -1 << 32, math.MaxInt, math.MinInt, math.MinInt + 1}

// wrongBlocks are prefixes that are not valid, by their Bits or by a bit set behind them; near are some that look like one of family.
func wrongBlocks() []api.Block {
	near := []api.Block{{Base: 0x0a000001, Bits: 8}, {Base: 0x0a800000, Bits: 8}, {Base: 0x0a010001, Bits: 16}, {Base: 0x0a018000, Bits: 16}, {Base: 0x0a010203, Bits: 31}, {Base: 0x0a010203, Bits: 24}, {Base: 0x0a010203, Bits: 8}}
	list := append(near, []api.Block{{Base: 1}, {Base: 0x80000000}, {Base: math.MaxUint32}, {Base: 1, Bits: 1}, {Base: 0x40000000, Bits: 1}, {Base: 0xc0000000, Bits: 1}, {Base: math.MaxUint32, Bits: 31}}...)
	for _, n := range wrongBits {
		for _, base := range []api.Addr{0, 1, 0x0a000000, 0x0a010203, 0x80000000, math.MaxUint32} {
			list = append(list, api.Block{Base: base, Bits: n})
		}
	}
	return list
}

// The zero Trie

func TestZeroTrie(t *testing.T) {
	x := &trie.Trie{}
	checkAll(t, x, "")
	for _, b := range append(blocks(atTheEdges+" "+family), wrongBlocks()...) {
		checkHas(t, x, b, false)
		checkTake(t, x, b, api.ErrUnknown)
		checkOverlaps(t, x, b, false)
		if got, ok := x.Longest(b.Base); got != (api.Block{}) || ok {
			t.Errorf("Longest(%#x) = %s, %v", uint32(b.Base), show(got), ok)
		}
	}
	checkAll(t, x, "")
}

// P9.1

func TestPut(t *testing.T) {
	x := &trie.Trie{}
	for i, b := range blocks(atTheEdges) {
		checkHas(t, x, b, false)
		checkPut(t, x, b, 0)
		checkHas(t, x, b, true)
		if n := x.Len(); n != i+1 {
			t.Errorf("Len is %d behind Put %d", n, i)
		}
	}
	checkAll(t, x, atTheEdges)
}

func TestPutOfWhatIsNotValid(t *testing.T) {
	for _, text := range []string{"", family, atTheEdges, "0.0.0.0/0"} {
		x := with(t, text)
		for _, b := range wrongBlocks() {
			checkPut(t, x, b, api.ErrArgument)
			checkPut(t, x, b, api.ErrArgument)
			checkHas(t, x, b, false)
		}
		checkAll(t, x, text)
	}
}

func TestPutOfWhatIsThere(t *testing.T) {
	for _, text := range []string{family, atTheEdges} {
		x := with(t, text)
		for _, b := range blocks(text) {
			checkPut(t, x, b, api.ErrTaken)
			checkPut(t, x, b, api.ErrTaken)
		}
		checkAll(t, x, text)
	}
}

func TestPutOfWhatWasTaken(t *testing.T) {
	for _, text := range []string{family, atTheEdges} {
		x := with(t, text)
		for _, b := range blocks(text) {
			for range 3 {
				checkTake(t, x, b, 0)
				checkHas(t, x, b, false)
				checkPut(t, x, b, 0)
				checkHas(t, x, b, true)
				checkPut(t, x, b, api.ErrTaken)
			}
		}
		checkAll(t, x, text)
	}
}

// One prefix alone has no other one be there, above it, below it or beside it.
func TestHas(t *testing.T) {
	x := with(t, "10.1.0.0/16")
	checkHas(t, x, block("10.1.0.0/16"), true)
	for _, b := range blocks("0.0.0.0/0 0.0.0.0/1 10.0.0.0/8 10.0.0.0/15 10.0.0.0/16 10.2.0.0/16 10.1.0.0/17 10.1.128.0/17 10.1.0.0/24 10.1.0.0/32 10.1.0.1/32 10.1.255.255/32 138.1.0.0/16 10.129.0.0/16") {
		checkHas(t, x, b, false)
	}
}

func TestHasOfWhatIsNotValid(t *testing.T) {
	for _, text := range []string{family, atTheEdges, "0.0.0.0/0", "0.0.0.0/1 10.0.0.0/8 128.0.0.0/1", "10.1.2.2/31 255.255.255.254/31"} {
		x := with(t, text)
		for _, b := range wrongBlocks() {
			checkHas(t, x, b, false)
		}
	}
}

func TestTake(t *testing.T) {
	x := with(t, atTheEdges)
	left := strings.Fields(atTheEdges)
	for len(left) > 0 {
		// From the middle: of some that are taken those above stay, of others those below.
		i := len(left) / 2
		b := block(left[i])
		left = slices.Delete(left, i, i+1)
		checkTake(t, x, b, 0)
		checkHas(t, x, b, false)
		checkTake(t, x, b, api.ErrUnknown)
		checkAll(t, x, strings.Join(left, " "))
	}
}

func TestTakeOfWhatIsNotThere(t *testing.T) {
	for _, c := range []struct{ why, there, taken string }{
		{"above", "10.1.2.0/24", "0.0.0.0/0 0.0.0.0/1 10.0.0.0/8 10.1.0.0/16 10.1.2.0/23"},
		{"below", "10.1.2.0/24", "10.1.2.0/25 10.1.2.128/25 10.1.2.0/31 10.1.2.0/32 10.1.2.255/32"},
		{"beside", "10.1.2.0/24", "10.1.1.0/24 10.1.3.0/24 10.0.2.0/24 138.1.2.0/24 10.1.3.0/32 10.1.1.255/32 128.0.0.0/1"},
		{"above and below", "10.0.0.0/8 10.1.2.0/24", "10.1.0.0/16 10.0.0.0/9 10.1.2.0/23"},
		{"both halves", "10.1.2.0/25 10.1.2.128/25", "10.1.2.0/24"},
		{"its whole", "10.1.2.0/24", "10.1.2.0/25 10.1.2.128/25"},
		{"below all", "0.0.0.0/0", "0.0.0.0/1 128.0.0.0/1 0.0.0.0/32 255.255.255.255/32"},
		{"above all", "0.0.0.0/1 128.0.0.0/1", "0.0.0.0/0"},
		{"beside an address", "10.0.0.1/32", "10.0.0.0/32 10.0.0.2/32 10.0.0.0/31"},
	} {
		x := with(t, c.there)
		for _, b := range blocks(c.taken) {
			checkTake(t, x, b, api.ErrUnknown)
			checkHas(t, x, b, false)
		}
		checkAll(t, x, c.there)
		if t.Failed() {
			t.Fatal(c.why)
		}
	}
}

func TestTakeOfWhatIsNotValid(t *testing.T) {
	for _, text := range []string{family, atTheEdges, "0.0.0.0/0", "10.1.2.2/31 255.255.255.254/31"} {
		x := with(t, text)
		for _, b := range wrongBlocks() {
			checkTake(t, x, b, api.ErrUnknown)
		}
		checkAll(t, x, text)
	}
}

func TestTakeLeavesOthers(t *testing.T) {
	whole := strings.Fields(family + " 10.1.2.4/32 10.1.3.0/24 11.0.0.0/8")
	for i, s := range whole {
		x := with(t, strings.Join(whole, " "))
		checkTake(t, x, block(s), 0)
		checkAll(t, x, strings.Join(slices.Delete(slices.Clone(whole), i, i+1), " "))
		checkPut(t, x, block(s), 0)
		checkAll(t, x, strings.Join(whole, " "))
	}
}

func TestTriesAreApart(t *testing.T) {
	x, y := with(t, family), with(t, "10.1.0.0/16")
	checkTake(t, x, block("10.1.0.0/16"), 0)
	checkPut(t, y, block("11.0.0.0/8"), 0)
	checkAll(t, x, "10.0.0.0/8 10.1.2.0/24 10.1.2.3/32")
	checkAll(t, y, "10.1.0.0/16 11.0.0.0/8")
	checkAll(t, &trie.Trie{}, "")
}

// What was taken away takes no room any more.
func TestTakeLeavesNothingBehind(t *testing.T) {
	x := with(t, family)
	before := heap()
	for i := range 100000 {
		// Each one in a part of its own: an odd factor gives every i another address.
		b := api.Block{Base: api.Addr(i) * 0x9e3779b1, Bits: 32}
		if x.Put(b) != 0 || x.Take(b) != 0 {
			t.Fatal(show(b))
		}
	}
	if after := heap(); after > before+1<<21 {
		t.Errorf("%d bytes are kept", after-before)
	}
	checkAll(t, x, family)
}

func heap() uint64 {
	runtime.GC()
	var m runtime.MemStats
	runtime.ReadMemStats(&m)
	return m.HeapAlloc
}

// P9.2

func TestLongest(t *testing.T) {
	const several = "10.0.0.0/8 10.1.0.0/16 10.1.2.0/24 10.1.2.2/31 10.1.2.3/32 12.0.0.0/7 200.0.0.0/8"
	x := with(t, several)
	for a, want := range map[string]string{
		"9.255.255.255": "", "10.0.0.0": "10.0.0.0/8", "10.0.255.255": "10.0.0.0/8",
		"10.1.0.0": "10.1.0.0/16", "10.1.1.255": "10.1.0.0/16", "10.1.2.0": "10.1.2.0/24", "10.1.2.1": "10.1.2.0/24",
		"10.1.2.2": "10.1.2.2/31", "10.1.2.3": "10.1.2.3/32", "10.1.2.4": "10.1.2.0/24", "10.1.2.255": "10.1.2.0/24", "10.1.3.0": "10.1.0.0/16",
		"10.1.255.255": "10.1.0.0/16", "10.2.0.0": "10.0.0.0/8", "10.255.255.255": "10.0.0.0/8", "11.0.0.0": "",
		"11.255.255.255": "", "12.0.0.0": "12.0.0.0/7", "13.255.255.255": "12.0.0.0/7", "14.0.0.0": "",
		"199.255.255.255": "", "200.0.0.0": "200.0.0.0/8", "200.255.255.255": "200.0.0.0/8", "201.0.0.0": "",
		"0.0.0.0": "", "255.255.255.255": "", "138.1.2.3": "",
	} {
		checkLongest(t, x, a, want)
	}
	checkAll(t, x, several)
}

// The prefix of all addresses is the zero Block, but found.
func TestLongestOfAll(t *testing.T) {
	x := with(t, "0.0.0.0/0")
	for _, a := range []string{"0.0.0.0", "10.1.2.3", "127.255.255.255", "128.0.0.0", "255.255.255.255"} {
		checkLongest(t, x, a, "0.0.0.0/0")
	}
	checkPut(t, x, block("10.1.2.3/32"), 0)
	checkLongest(t, x, "10.1.2.3", "10.1.2.3/32")
	checkLongest(t, x, "10.1.2.2", "0.0.0.0/0")
}

func TestLongestAtTheEdges(t *testing.T) {
	x := with(t, atTheEdges)
	for a, want := range map[string]string{
		"0.0.0.0": "0.0.0.0/32", "0.0.0.1": "0.0.0.1/32", "0.0.0.2": "0.0.0.0/1",
		"127.255.255.253": "0.0.0.0/1", "127.255.255.254": "127.255.255.254/31", "127.255.255.255": "127.255.255.255/32",
		"128.0.0.0": "128.0.0.0/32", "128.0.0.1": "128.0.0.0/31", "128.0.0.2": "128.0.0.0/1",
		"255.255.255.253": "128.0.0.0/1", "255.255.255.254": "255.255.255.254/32", "255.255.255.255": "255.255.255.255/32",
	} {
		checkLongest(t, x, a, want)
	}
}

// As the prefixes are taken from the longest one on, the next one above is found; a longer one beside it doesn't count.
func TestLongestAsPrefixesAreTaken(t *testing.T) {
	x := with(t, family+" 10.1.2.2/32")
	list := strings.Fields(family)
	for i := len(list) - 1; i >= 0; i-- {
		checkLongest(t, x, "10.1.2.3", list[i])
		checkTake(t, x, block(list[i]), 0)
	}
	checkLongest(t, x, "10.1.2.3", "")
	checkLongest(t, x, "10.1.2.2", "10.1.2.2/32")
}

func TestOverlaps(t *testing.T) {
	for _, c := range []struct{ there, yes, no string }{
		{"10.1.0.0/16", "10.1.0.0/16 0.0.0.0/0 0.0.0.0/1 8.0.0.0/5 10.0.0.0/8 10.0.0.0/15 10.1.0.0/17 10.1.128.0/17 10.1.2.0/24 10.1.0.0/32 10.1.255.255/32",
			"128.0.0.0/1 10.0.0.0/16 10.2.0.0/16 10.2.0.0/15 10.0.255.255/32 10.2.0.0/32 11.0.0.0/8 138.1.0.0/16 10.129.0.0/16 0.0.0.0/32 255.255.255.255/32"},
		{"10.1.2.3/32", "10.1.2.3/32 10.1.2.2/31 0.0.0.0/0", "10.1.2.2/32 10.1.2.4/32 10.1.2.0/31 10.1.2.4/31"},
		{"0.0.0.0/0", "0.0.0.0/0 0.0.0.0/1 128.0.0.0/1 0.0.0.0/32 255.255.255.255/32 255.255.255.254/31", ""},
		{"0.0.0.0/1", "0.0.0.0/0 0.0.0.0/1 0.0.0.0/32 127.255.255.255/32", "128.0.0.0/1 128.0.0.0/32 255.255.255.255/32"},
		{"128.0.0.0/1", "0.0.0.0/0 128.0.0.0/1 128.0.0.0/32 255.255.255.255/32", "0.0.0.0/1 0.0.0.0/32 127.255.255.255/32"},
		{"0.0.0.0/32 255.255.255.255/32", "0.0.0.0/0 0.0.0.0/1 128.0.0.0/1 0.0.0.0/31 255.255.255.254/31", "0.0.0.1/32 255.255.255.254/32 64.0.0.0/2 10.0.0.0/8"},
		{"10.0.0.0/8 10.1.2.0/24", "10.1.0.0/16 10.5.0.0/24 10.1.2.3/32", "11.0.0.0/8"},
		{"10.1.2.0/25 10.1.2.128/25", "10.1.2.0/24 10.1.2.0/25 10.1.2.200/32", "10.1.3.0/24 10.1.0.0/23"},
		{"10.1.2.128/25", "10.1.2.0/24", "10.1.2.0/25"},
	} {
		x := with(t, c.there)
		for _, b := range blocks(c.yes) {
			checkOverlaps(t, x, b, true)
		}
		for _, b := range blocks(c.no) {
			checkOverlaps(t, x, b, false)
		}
		checkAll(t, x, c.there)
	}
}

func TestOverlapsOfWhatIsNotValid(t *testing.T) {
	for _, text := range []string{family, atTheEdges, "0.0.0.0/0", "10.1.2.2/31 255.255.255.254/31"} {
		x := with(t, text)
		for _, b := range wrongBlocks() {
			checkOverlaps(t, x, b, false)
		}
	}
}

// Only what is there counts, not what was.
func TestOverlapsAfterTake(t *testing.T) {
	x := with(t, family)
	checkTake(t, x, block("10.0.0.0/8"), 0)
	checkOverlaps(t, x, block("10.5.0.0/24"), false)
	checkOverlaps(t, x, block("10.0.0.0/8"), true)
	checkTake(t, x, block("10.1.2.3/32"), 0)
	checkOverlaps(t, x, block("10.1.2.3/32"), true)
	checkTake(t, x, block("10.1.2.0/24"), 0)
	checkTake(t, x, block("10.1.0.0/16"), 0)
	for _, b := range blocks(family + " 0.0.0.0/0") {
		checkOverlaps(t, x, b, false)
	}
}

func TestAllOfOne(t *testing.T) {
	for _, s := range strings.Fields(atTheEdges) {
		checkAll(t, with(t, s), s)
	}
}

// Prefixes that overlap nothing, and such as have equal Base and other Bits, put in several orders.
func TestAllInSeveralOrders(t *testing.T) {
	for _, text := range []string{
		family, atTheEdges,
		"0.0.0.0/0 0.0.0.0/1 0.0.0.0/2 0.0.0.0/8 0.0.0.0/16 0.0.0.0/31 0.0.0.0/32",
		"1.0.0.0/8 2.0.0.0/8 9.0.0.0/8 10.0.0.0/8 100.0.0.0/8 127.0.0.0/8 128.0.0.0/8 200.0.0.0/8 255.0.0.0/8",
		"10.0.0.0/8 10.0.0.0/16 10.0.0.0/32 10.0.0.1/32 10.0.1.0/24 10.1.0.0/16 10.1.0.0/24 10.2.0.0/15 10.2.0.0/32 11.0.0.0/8",
	} {
		up := strings.Fields(text)
		down := slices.Clone(up)
		slices.Reverse(down)
		checkAll(t, with(t, text), text)
		checkAll(t, with(t, strings.Join(down, " ")), text)
		for turn := range up {
			turned := slices.Concat(up[turn:], up[:turn])
			checkAll(t, with(t, strings.Join(turned, " ")), text)
			slices.Reverse(turned[1:])
			checkAll(t, with(t, strings.Join(turned, " ")), text)
		}
	}
}

func TestAllAfterSomeWereTaken(t *testing.T) {
	x := with(t, atTheEdges)
	left := []string{}
	for i, s := range strings.Fields(atTheEdges) {
		if i%3 == 0 {
			checkTake(t, x, block(s), 0)
		} else {
			left = append(left, s)
		}
	}
	checkAll(t, x, strings.Join(left, " "))
}

// What All returned is the caller's: later calls don't change it, and changing it changes no Trie.
func TestAllIsNew(t *testing.T) {
	x := with(t, family)
	first, second := x.All(), x.All()
	checkTake(t, x, block("10.0.0.0/8"), 0)
	checkPut(t, x, block("9.0.0.0/8"), 0)
	checkPut(t, x, block("11.0.0.0/8"), 0)
	x.All()
	if want := blocks(family); !slices.Equal(first, want) || !slices.Equal(second, want) {
		t.Errorf("%s and %s, want %s", showAll(first), showAll(second), showAll(want))
	}
	clear(first)
	_ = append(first[:1], block("1.2.3.4/32"))
	if want := blocks(family); !slices.Equal(second, want) {
		t.Errorf("%s, want %s", showAll(second), showAll(want))
	}
	for _, list := range [][]api.Block{x.All(), x.All()} {
		for i := range list {
			list[i] = block("1.2.3.4/32")
		}
	}
	checkAll(t, x, "9.0.0.0/8 10.1.0.0/16 10.1.2.0/24 10.1.2.3/32 11.0.0.0/8")
	checkHas(t, x, block("1.2.3.4/32"), false)
}

func TestExample(t *testing.T) {
	x := with(t, "10.0.0.0/8 10.1.0.0/16")
	checkLongest(t, x, "10.1.2.3", "10.1.0.0/16")
}
