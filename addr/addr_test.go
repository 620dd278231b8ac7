package addr_test

import (
	"fmt"
	"math"
	"math/bits"
	"strings"
	"testing"

	"terrier/addr"
	"terrier/api"
)

const allOnes = api.Addr(0xffffffff)

var someAddrs = []api.Addr{
	0, 1, 2, 127, 128, 255, 256, 0x01020304, 0x0a000000, 0x0a0000ff, 0x0a010280, 0x7fffffff,
	0x80000000, 0x80000001, 0xaaaaaaaa, 0x55555555, 0xc0a80001, 0xff000000, 0xfffffffe, allOnes,
}

var wrongBits = []int{-1, -2, -32, -33, 33, 34, 63, 64, 65, 256, 1 << 32, 1<<32 + 8, -1 << 32, math.MaxInt, math.MinInt, math.MinInt + 1}

// wrongBlocks are prefixes that are not valid, by their Bits or by a bit set behind them.
func wrongBlocks() []api.Block {
	list := []api.Block{
		{Base: 1, Bits: 0}, {Base: 0x80000000, Bits: 0}, {Base: allOnes, Bits: 0}, {Base: allOnes, Bits: 31},
		{Base: 1, Bits: 31}, {Base: 0x0a010201, Bits: 24}, {Base: 0x0a010280, Bits: 24}, {Base: 0x40000000, Bits: 1},
	}
	for _, n := range wrongBits {
		list = append(list, api.Block{Bits: n}, api.Block{Base: 0x0a000000, Bits: n}, api.Block{Base: allOnes, Bits: n})
	}
	return list
}

// firstBits is the independent model of a prefix: an address as 32 letters, cut off.
func firstBits(a api.Addr, n int) string { return fmt.Sprintf("%032b", uint32(a))[:n] }

// rightBlocks are the prefixes of every length of some addresses, made by the model.
func rightBlocks() []api.Block {
	var list []api.Block
	for _, a := range someAddrs {
		for n := 0; n <= 32; n++ {
			list = append(list, modelBlock(a, n))
		}
	}
	return list
}

func modelBlock(a api.Addr, n int) api.Block {
	base := api.Addr(0)
	for _, c := range firstBits(a, n) + strings.Repeat("0", 32-n) {
		base = base*2 + api.Addr(c-'0')
	}
	return api.Block{Base: base, Bits: n}
}

// P1.1

func TestText(t *testing.T) {
	for a, want := range map[api.Addr]string{
		0: "0.0.0.0", 1: "0.0.0.1", 0x01020304: "1.2.3.4", 0x0a0000ff: "10.0.0.255", 0x64636200: "100.99.98.0",
		0x80000000: "128.0.0.0", 0x00ff0000: "0.255.0.0", 0x0000ff00: "0.0.255.0", allOnes: "255.255.255.255",
	} {
		if s := addr.Text(a); s != want {
			t.Errorf("Text(%#x) = %q, want %q", uint32(a), s, want)
		}
	}
}

func TestParseReadsEveryByteAtEveryPlace(t *testing.T) {
	for _, shift := range []int{0, 8, 16, 24} {
		for n := range 256 {
			a := api.Addr(n) << shift
			s := fmt.Sprintf("%d.%d.%d.%d", a>>24, a>>16&255, a>>8&255, a&255)
			if text := addr.Text(a); text != s {
				t.Errorf("Text(%#x) = %q, want %q", uint32(a), text, s)
			}
			if got, ok := addr.Parse(s); got != a || !ok {
				t.Errorf("Parse(%q) = %#x, %v", s, uint32(got), ok)
			}
		}
	}
}

func TestParseReadsTexts(t *testing.T) {
	for _, a := range someAddrs {
		if got, ok := addr.Parse(addr.Text(a)); got != a || !ok {
			t.Errorf("Parse(%q) = %#x, %v", addr.Text(a), uint32(got), ok)
		}
	}
}

func TestParseRefusesWhatIsNobodysText(t *testing.T) {
	for _, s := range []string{
		"", "0", ".", "...", "....", "1.2.3", "1.2.3.", ".1.2.3", "1..2.3", "1.2..3", "1.2.3.4.", ".1.2.3.4", "1.2.3.4.5", "1.2.3.4..",
		"256.0.0.0", "0.256.0.0", "0.0.256.0", "0.0.0.256", "1.2.3.260", "1.2.3.999", "1.2.3.1000", "4294967296.0.0.0",
		"1.2.3.18446744073709551616", "1.2.3.18446744073709551620", "1.2.3.4294967300",
		"01.2.3.4", "1.02.3.4", "1.2.003.4", "1.2.3.04", "00.0.0.0", "0.0.0.00", "0.0.0.000", "0001.2.3.4",
		"-1.2.3.4", "1.2.3.-4", "1.2.3.-0", "+1.2.3.4", "1.2.3.+4", " 1.2.3.4", "1.2.3.4 ", "1. 2.3.4", "1.2.3.4\n", "1.2.3.4\x00",
		"1.2.3.a", "a.b.c.d", "1.2.3.0x4", "1.2.3.1e1", "1.2.3.1_0", "1,2,3,4", "1.2.3,4", "1.2.3/4", "1.2.3:4", "1.2.3.:", "1.2.3./",
		"1.2.3.4/32", "1.2.3.\xff", "1.2.3.\u0664", "1.2.3.\uff14", "16909060", "0x01020304", "::1", "1.2.3.4" + strings.Repeat("0", 1000),
		"1.2.3." + strings.Repeat("0", 1000), strings.Repeat("1.", 1000), strings.Repeat(".", 1000),
	} {
		if a, ok := addr.Parse(s); a != 0 || ok {
			t.Errorf("Parse(%q) = %#x, %v", s, uint32(a), ok)
		}
	}
}

// A byte put in, taken out or changed gives either another address's Text or nobody's.
func TestParseOfChangedTexts(t *testing.T) {
	for _, a := range someAddrs {
		for _, s := range changed(addr.Text(a)) {
			got, ok := addr.Parse(s)
			if ok && addr.Text(got) != s || !ok && got != 0 {
				t.Errorf("Parse(%q) = %#x, %v", s, uint32(got), ok)
			}
		}
	}
}

func changed(s string) []string {
	var list []string
	for i := range len(s) + 1 {
		for c := range 256 {
			put := string([]byte{byte(c)})
			list = append(list, s[:i]+put+s[i:])
			if i < len(s) {
				list = append(list, s[:i]+put+s[i+1:])
			}
		}
		if i < len(s) {
			list = append(list, s[:i]+s[i+1:])
		}
	}
	return list
}

// P1.2

func TestRight(t *testing.T) {
	for _, b := range rightBlocks() {
		if !addr.Right(b) {
			t.Errorf("%v is valid", b)
		}
	}
	for _, b := range wrongBlocks() {
		if addr.Right(b) {
			t.Errorf("%v is not valid", b)
		}
	}
}

func TestRightLooksAtEachBit(t *testing.T) {
	for n := 0; n <= 32; n++ {
		for place := range 32 {
			b := api.Block{Base: api.Addr(1) << (31 - place), Bits: n}
			if addr.Right(b) != (place < n) {
				t.Errorf("Right(%v) with bit %d set", b, place)
			}
		}
	}
}

func TestMake(t *testing.T) {
	for _, a := range someAddrs {
		for n := 0; n <= 32; n++ {
			if b, ok := addr.Make(a, n); b != modelBlock(a, n) || !ok {
				t.Errorf("Make(%#x, %d) = %v, %v", uint32(a), n, b, ok)
			}
		}
		for _, n := range wrongBits {
			if b, ok := addr.Make(a, n); b != (api.Block{}) || ok {
				t.Errorf("Make(%#x, %d) = %v, %v", uint32(a), n, b, ok)
			}
		}
	}
}

func TestBlockText(t *testing.T) {
	for _, c := range []struct {
		b    api.Block
		want string
	}{
		{api.Block{}, "0.0.0.0/0"},
		{api.Block{Base: 0x0a010200, Bits: 24}, "10.1.2.0/24"},
		{api.Block{Base: 0x0a000004, Bits: 32}, "10.0.0.4/32"},
		{api.Block{Base: allOnes, Bits: 32}, "255.255.255.255/32"},
		{api.Block{Base: 0x80000000, Bits: 1}, "128.0.0.0/1"},
		// The text is given for prefixes that are not valid, too.
		{api.Block{Base: allOnes, Bits: 0}, "255.255.255.255/0"},
		{api.Block{Base: 0x0a010201, Bits: 24}, "10.1.2.1/24"},
		{api.Block{Base: 1, Bits: 33}, "0.0.0.1/33"},
		{api.Block{Base: 1, Bits: -1}, "0.0.0.1/-1"},
		{api.Block{Bits: math.MaxInt}, "0.0.0.0/9223372036854775807"},
		{api.Block{Bits: math.MinInt}, "0.0.0.0/-9223372036854775808"},
	} {
		if s := addr.BlockText(c.b); s != c.want {
			t.Errorf("BlockText(%v) = %q, want %q", c.b, s, c.want)
		}
	}
}

func TestParseBlockReadsTexts(t *testing.T) {
	for _, b := range rightBlocks() {
		if got, ok := addr.ParseBlock(addr.BlockText(b)); got != b || !ok {
			t.Errorf("ParseBlock(%q) = %v, %v", addr.BlockText(b), got, ok)
		}
	}
}

func TestParseBlockRefusesPrefixesThatAreNotValid(t *testing.T) {
	for _, b := range wrongBlocks() {
		if got, ok := addr.ParseBlock(addr.BlockText(b)); got != (api.Block{}) || ok {
			t.Errorf("ParseBlock(%q) = %v, %v", addr.BlockText(b), got, ok)
		}
	}
}

func TestParseBlockRefusesWhatIsNobodysText(t *testing.T) {
	for _, s := range []string{
		"", "/", "//", "/24", "24", "10.1.2.0", "10.1.2.0/", "10.1.2.0//24", "10.1.2.0/24/", "10.1.2.0/24/24", "/10.1.2.0/24",
		"10.1.2.0/024", "10.1.2.0/00", "0.0.0.0/00", "0.0.0.0/-0", "0.0.0.0/+0", "10.1.2.0/+24", "10.1.2.0/-24", "10.1.2.0/ 24",
		"10.1.2.0 /24", "10.1.2.0/24 ", " 10.1.2.0/24", "10.1.2.0/24\n", "10.1.2.0\\24", "10.1.2/24", "10.1.2.0.0/24", "010.1.2.0/24",
		"10.1.256.0/24", "10.1.2.0/33", "10.1.2.0/240", "10.1.2.0/x", "10.1.2.0/0x18", "10.1.2.0/2_4", "10.1.2.0/2.4", "10.1.2.0/255.255.255.0",
		"10.1.2.0/18446744073709551640", "10.1.2.0/4294967320", "10.1.2.0/" + strings.Repeat("0", 1000), "10.1.2.0/24" + strings.Repeat("0", 1000),
	} {
		if b, ok := addr.ParseBlock(s); b != (api.Block{}) || ok {
			t.Errorf("ParseBlock(%q) = %v, %v", s, b, ok)
		}
	}
}

func TestParseBlockOfChangedTexts(t *testing.T) {
	for _, text := range []string{"0.0.0.0/0", "10.1.2.0/24", "10.0.0.4/32", "128.0.0.0/1", "255.255.255.255/32"} {
		for _, s := range changed(text) {
			b, ok := addr.ParseBlock(s)
			if ok && (addr.BlockText(b) != s || !addr.Right(b)) || !ok && b != (api.Block{}) {
				t.Errorf("ParseBlock(%q) = %v, %v", s, b, ok)
			}
		}
	}
}

// P1.3

func TestHas(t *testing.T) {
	for _, b := range rightBlocks() {
		for _, a := range someAddrs {
			if want := firstBits(a, b.Bits) == firstBits(b.Base, b.Bits); addr.Has(b, a) != want {
				t.Errorf("Has(%v, %#x) is not %v", b, uint32(a), want)
			}
		}
	}
}

func TestHasAtTheEdges(t *testing.T) {
	b := api.Block{Base: 0x0a010200, Bits: 24}
	for a, want := range map[api.Addr]bool{0x0a0101ff: false, 0x0a010200: true, 0x0a0102ff: true, 0x0a010300: false} {
		if addr.Has(b, a) != want {
			t.Errorf("Has(%v, %#x) is not %v", b, uint32(a), want)
		}
	}
	last := api.Block{Base: allOnes, Bits: 32}
	if !addr.Has(last, allOnes) || addr.Has(last, allOnes-1) || addr.Has(last, 0) {
		t.Error("the last address alone")
	}
	if !addr.Has(api.Block{}, 0) || !addr.Has(api.Block{}, allOnes) {
		t.Error("all addresses")
	}
}

func TestHasOfPrefixesThatAreNotValid(t *testing.T) {
	for _, b := range wrongBlocks() {
		for _, a := range append([]api.Addr{b.Base}, someAddrs...) {
			if addr.Has(b, a) {
				t.Errorf("Has(%v, %#x)", b, uint32(a))
			}
		}
	}
}

func TestWithinAndOverlap(t *testing.T) {
	list := rightBlocks()
	for _, x := range list {
		for _, y := range list {
			want := strings.HasPrefix(firstBits(x.Base, x.Bits), firstBits(y.Base, y.Bits))
			back := strings.HasPrefix(firstBits(y.Base, y.Bits), firstBits(x.Base, x.Bits))
			if addr.Within(x, y) != want {
				t.Errorf("Within(%v, %v) is not %v", x, y, want)
			}
			if addr.Overlap(x, y) != (want || back) {
				t.Errorf("Overlap(%v, %v) is not %v", x, y, want || back)
			}
		}
	}
}

func TestWithinAndOverlapOfPrefixesThatAreNotValid(t *testing.T) {
	for _, wrong := range wrongBlocks() {
		others := append(rightBlocks(), wrong)
		for _, b := range append(others, wrongBlocks()...) {
			if addr.Within(wrong, b) || addr.Within(b, wrong) {
				t.Errorf("Within of %v and %v", wrong, b)
			}
			if addr.Overlap(wrong, b) || addr.Overlap(b, wrong) {
				t.Errorf("Overlap of %v and %v", wrong, b)
			}
		}
	}
}

// P1.4

func TestSize(t *testing.T) {
	want := 1
	for n := 32; n >= 0; n-- {
		for _, a := range someAddrs {
			if got := addr.Size(modelBlock(a, n)); got != want {
				t.Errorf("Size(%v) = %d, want %d", modelBlock(a, n), got, want)
			}
		}
		want *= 2
	}
	for _, b := range wrongBlocks() {
		if got := addr.Size(b); got != 0 {
			t.Errorf("Size(%v) = %d", b, got)
		}
	}
}

func TestAt(t *testing.T) {
	for _, b := range rightBlocks() {
		size := 1 << (32 - b.Bits)
		for _, k := range []int{0, 1, 2, 3, 255, size / 2, size - 2, size - 1, size, size + 1} {
			checkAt(t, b, k, size)
		}
		for _, k := range []int{-1, -2, -size, 2 * size, 1 << 32, 1<<32 + 1, -1 << 32, math.MaxInt, math.MinInt} {
			checkAt(t, b, k, size)
		}
	}
}

func checkAt(t *testing.T, b api.Block, k, size int) {
	t.Helper()
	want, right := api.Addr(0), k >= 0 && k < size
	if right {
		want = api.Addr(int(b.Base) + k)
	}
	if a, ok := addr.At(b, k); a != want || ok != right {
		t.Errorf("At(%v, %d) = %#x, %v", b, k, uint32(a), ok)
	}
}

func TestAtTheEdges(t *testing.T) {
	for _, c := range []struct {
		b    api.Block
		k    int
		want api.Addr
		ok   bool
	}{
		{api.Block{}, 0, 0, true},
		{api.Block{}, 1<<32 - 1, allOnes, true},
		{api.Block{}, 1 << 32, 0, false},
		{api.Block{Base: allOnes, Bits: 32}, 0, allOnes, true},
		{api.Block{Base: allOnes, Bits: 32}, 1, 0, false},
		{api.Block{Base: allOnes, Bits: 32}, -1, 0, false},
		{api.Block{Base: 0x0a010200, Bits: 24}, 255, 0x0a0102ff, true},
		{api.Block{Base: 0x0a010200, Bits: 24}, 256, 0, false},
	} {
		if a, ok := addr.At(c.b, c.k); a != c.want || ok != c.ok {
			t.Errorf("At(%v, %d) = %#x, %v", c.b, c.k, uint32(a), ok)
		}
	}
}

func TestAtOfPrefixesThatAreNotValid(t *testing.T) {
	for _, b := range wrongBlocks() {
		for _, k := range []int{0, 1, -1, 255, math.MaxInt, math.MinInt} {
			if a, ok := addr.At(b, k); a != 0 || ok {
				t.Errorf("At(%v, %d) = %#x, %v", b, k, uint32(a), ok)
			}
		}
	}
}

// P1.5

func TestHalves(t *testing.T) {
	for _, b := range rightBlocks() {
		x, y, ok := addr.Halves(b)
		if b.Bits == 32 {
			if x != (api.Block{}) || y != (api.Block{}) || ok {
				t.Errorf("Halves(%v) = %v, %v, %v", b, x, y, ok)
			}
			continue
		}
		lower := modelBlock(b.Base, b.Bits+1)
		upper := modelBlock(b.Base+api.Addr(1<<(31-b.Bits)), b.Bits+1)
		if x != lower || y != upper || !ok {
			t.Errorf("Halves(%v) = %v, %v, %v", b, x, y, ok)
		}
	}
}

func TestHalvesAtTheEdges(t *testing.T) {
	for _, c := range []struct{ b, x, y api.Block }{
		{api.Block{Base: 0x0a000000, Bits: 31}, api.Block{Base: 0x0a000000, Bits: 32}, api.Block{Base: 0x0a000001, Bits: 32}},
		{api.Block{}, api.Block{Bits: 1}, api.Block{Base: 0x80000000, Bits: 1}},
		{api.Block{Base: allOnes - 1, Bits: 31}, api.Block{Base: allOnes - 1, Bits: 32}, api.Block{Base: allOnes, Bits: 32}},
	} {
		if x, y, ok := addr.Halves(c.b); x != c.x || y != c.y || !ok {
			t.Errorf("Halves(%v) = %v, %v, %v", c.b, x, y, ok)
		}
		if b, ok := addr.Whole(c.x, c.y); b != c.b || !ok {
			t.Errorf("Whole(%v, %v) = %v, %v", c.x, c.y, b, ok)
		}
	}
}

func TestHalvesOfPrefixesThatAreNotValid(t *testing.T) {
	for _, b := range wrongBlocks() {
		if x, y, ok := addr.Halves(b); x != (api.Block{}) || y != (api.Block{}) || ok {
			t.Errorf("Halves(%v) = %v, %v, %v", b, x, y, ok)
		}
	}
}

// Two prefixes have a whole if and only if they differ in nothing but the last of their bits, the lower one first.
func TestWhole(t *testing.T) {
	list := append(rightBlocks(), wrongBlocks()...)
	for _, b := range rightBlocks() {
		if b.Bits < 32 {
			list = append(list, modelBlock(b.Base+api.Addr(1<<(31-b.Bits)), b.Bits+1))
		}
	}
	found := 0
	for _, x := range list {
		for _, y := range list {
			want, right := modelWhole(x, y)
			if b, ok := addr.Whole(x, y); b != want || ok != right {
				t.Errorf("Whole(%v, %v) = %v, %v", x, y, b, ok)
			}
			if right {
				found++
			}
		}
	}
	if found == 0 {
		t.Error("no two had a whole")
	}
}

func modelWhole(x, y api.Block) (api.Block, bool) {
	n := x.Bits
	if n < 1 || n > 32 || y.Bits != n || x.Base >= y.Base || bits.OnesCount32(uint32(x.Base^y.Base)) != 1 {
		return api.Block{}, false
	}
	if modelBlock(x.Base, n) != x || modelBlock(y.Base, n) != y || firstBits(x.Base, n-1) != firstBits(y.Base, n-1) {
		return api.Block{}, false
	}
	return modelBlock(x.Base, n-1), true
}

func TestWholeRefuses(t *testing.T) {
	for _, c := range []struct {
		why  string
		x, y api.Block
	}{
		{"the wrong order", api.Block{Base: 0x0a000001, Bits: 32}, api.Block{Base: 0x0a000000, Bits: 32}},
		{"the wrong order, of all", api.Block{Base: 0x80000000, Bits: 1}, api.Block{Bits: 1}},
		{"the lower one twice", api.Block{Base: 0x0a000000, Bits: 32}, api.Block{Base: 0x0a000000, Bits: 32}},
		{"the upper one twice", api.Block{Base: 0x0a000001, Bits: 32}, api.Block{Base: 0x0a000001, Bits: 32}},
		{"neighbours of two wholes", api.Block{Base: 0x0a000001, Bits: 32}, api.Block{Base: 0x0a000002, Bits: 32}},
		{"neighbours around the end", api.Block{Base: allOnes, Bits: 32}, api.Block{Bits: 32}},
		{"other Bits", api.Block{Base: 0x0a000000, Bits: 25}, api.Block{Base: 0x0a000080, Bits: 26}},
		{"other Bits, the first one longer", api.Block{Base: 0x0a000000, Bits: 26}, api.Block{Base: 0x0a000080, Bits: 25}},
		{"not beside each other", api.Block{Base: 0x0a000000, Bits: 32}, api.Block{Base: 0x0a000003, Bits: 32}},
		{"all addresses twice", api.Block{}, api.Block{}},
		{"the first one not valid", api.Block{Base: 0x0a000001, Bits: 25}, api.Block{Base: 0x0a000080, Bits: 25}},
		{"the second one not valid", api.Block{Base: 0x0a000000, Bits: 25}, api.Block{Base: 0x0a000081, Bits: 25}},
		{"33 Bits", api.Block{Bits: 33}, api.Block{Bits: 33}},
		{"Bits below 0", api.Block{Bits: -1}, api.Block{Bits: -1}},
		{"the least Bits", api.Block{Bits: math.MinInt}, api.Block{Bits: math.MinInt}},
		{"the most Bits", api.Block{Bits: math.MaxInt}, api.Block{Bits: math.MaxInt}},
	} {
		if b, ok := addr.Whole(c.x, c.y); b != (api.Block{}) || ok {
			t.Errorf("%s: Whole(%v, %v) = %v, %v", c.why, c.x, c.y, b, ok)
		}
	}
}
