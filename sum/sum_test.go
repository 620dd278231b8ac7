package sum_test

import (
	"bytes"
	"hash/crc32"
	"slices"
	"testing"

	"terrier/sum"
)

// mixed is a row of bytes that differ, the same one at every run.
func mixed(n int) []byte {
	b := make([]byte, n)
	state := uint32(n) + 12345
	for i := range b {
		state = state*1664525 + 1013904223
		b[i] = byte(state >> 24)
	}
	return b
}

func row(c byte, n int) []byte { return bytes.Repeat([]byte{c}, n) }

// samples are short rows of every length, long ones, and rows of one byte only.
func samples() [][]byte {
	list := [][]byte{nil, {}}
	for n := range 70 {
		list = append(list, mixed(n), row(0, n), row(255, n), row(1, n), row(128, n))
	}
	for _, n := range []int{255, 256, 257, 1499, 1500, 65535, 65536, 65537, 131070, 131071, 131072, 131073, 300001} {
		list = append(list, mixed(n), row(0, n), row(255, n))
	}
	return list
}

// modelWords sums all words first, in 64 bits, and adds the excess behind that until none is left.
func modelWords(b []byte) uint16 {
	var total uint64
	for i, c := range b {
		if i%2 == 0 {
			total += uint64(c) * 256
		} else {
			total += uint64(c)
		}
	}
	for total > 65535 {
		total = total%65536 + total/65536
	}
	return uint16(65535 - total)
}

// joined is the bytes of words, the most significant one first.
func joined(words ...uint16) []byte {
	var b []byte
	for _, w := range words {
		b = append(b, byte(w>>8), byte(w))
	}
	return b
}

// example is the head of a packet, without its sum, which is b861.
func example() []byte {
	return []byte{0x45, 0, 0, 0x73, 0, 0, 0x40, 0, 0x40, 0x11, 0, 0, 0xc0, 0xa8, 0, 1, 0xc0, 0xa8, 0, 0xc7}
}

// sealed is an even row with its sum behind it.
func sealed(b []byte) []byte { return append(slices.Clone(b), joined(sum.Words(b))...) }

func checkWords(t *testing.T, b []byte, want uint16) {
	t.Helper()
	if got := sum.Words(b); got != want {
		t.Errorf("Words of %d bytes, % x .. = %04x, want %04x", len(b), b[:min(len(b), 16)], got, want)
	}
}

// P4.1

func TestWordsOfFewBytes(t *testing.T) {
	checkWords(t, nil, 0xffff)
	checkWords(t, []byte{}, 0xffff)
	checkWords(t, []byte{0}, 0xffff)
	checkWords(t, []byte{1}, 0xfeff)
	checkWords(t, []byte{0x80}, 0x7fff)
	checkWords(t, []byte{255}, 0x00ff)
	checkWords(t, []byte{0, 0}, 0xffff)
	checkWords(t, []byte{0, 1}, 0xfffe)
	checkWords(t, []byte{255, 255}, 0)
	checkWords(t, []byte{0x12, 0x34, 0x56}, ^uint16(0x1234+0x5600))
	checkWords(t, []byte{0x12, 0x34, 0x56, 0x78}, ^uint16(0x1234+0x5678))
	checkWords(t, example(), 0xb861)
}

func TestWordsOfEachByte(t *testing.T) {
	for c := range 256 {
		checkWords(t, []byte{byte(c)}, ^(uint16(c) << 8))
		checkWords(t, []byte{0, byte(c)}, ^uint16(c))
		checkWords(t, []byte{0, 0, byte(c)}, ^(uint16(c) << 8))
	}
}

func TestWordsBeginsWithTheMostSignificantByte(t *testing.T) {
	checkWords(t, []byte{0x12, 0x34}, 0xedcb)
	checkWords(t, []byte{0x34, 0x12}, 0xcbed)
	checkWords(t, []byte{0, 0, 0x12, 0x34}, 0xedcb)
	checkWords(t, []byte{1, 0}, 0xfeff)
	checkWords(t, []byte{0, 1}, 0xfffe)
}

// A 0 completes an odd row behind it, so that a 0 there makes no difference, and one ahead of it does.
func TestWordsCompletesAnOddRow(t *testing.T) {
	for n := 1; n < 200; n += 2 {
		b := mixed(n)
		checkWords(t, b, sum.Words(append(slices.Clone(b), 0)))
	}
	checkWords(t, []byte{7}, 0xf8ff)
	checkWords(t, []byte{0, 7}, 0xfff8)
	checkWords(t, []byte{1, 2, 255}, ^uint16(3)) // 0102 + ff00 = 10002, and 2 + 1 is carried
}

func TestWordsOfEqualBytes(t *testing.T) {
	for _, n := range []int{2, 3, 4, 5, 20, 21, 65536, 65537, 131072, 131074, 200000, 200001} {
		checkWords(t, row(0, n), 0xffff)
	}
	for _, n := range []int{2, 4, 6, 20, 65536, 131072, 131074, 200000} {
		checkWords(t, row(255, n), 0)
	}
	for _, n := range []int{3, 5, 21, 65537, 131073, 200001} {
		checkWords(t, row(255, n), 0x00ff) // ffff + ff00 = 1feff, carried ff00
	}
}

func TestWordsWhereTheSumIsAtTheEdge(t *testing.T) {
	checkWords(t, joined(0xfffe), 1)
	checkWords(t, joined(0xfffe, 1), 0)      // 65535: nothing is beyond 16 bits
	checkWords(t, joined(0x8000, 0x7fff), 0) // 65535
	checkWords(t, joined(0xffff, 0), 0)      // 65535
	checkWords(t, joined(0xffff, 1), 0xfffe) // 65536: 0, and 1 is carried
	checkWords(t, joined(0x8000, 0x8000), 0xfffe)
	checkWords(t, joined(0xfffe, 2), 0xfffe)
	checkWords(t, joined(0xfffe, 3), 0xfffd)     // 65537
	checkWords(t, joined(0xffff, 0xfffe), 1)     // 1fffd: fffd, and 1 is carried
	checkWords(t, joined(0xffff, 0xffff), 0)     // 1fffe: fffe, and 1 is carried
	checkWords(t, []byte{0xff, 0xff, 1}, 0xfeff) // 100ff: ff, and 1 is carried
}

// An excess that is kept for the end, or added only once there, may be lost in these.
func TestWordsWhereTheSumExceedsOften(t *testing.T) {
	checkWords(t, joined(0xffff, 0xffff, 1), 0xfffe)
	checkWords(t, joined(0x8000, 0x8000, 0xffff), 0xfffe)
	checkWords(t, joined(0xffff, 0xffff, 0xffff, 0xffff), 0)
	checkWords(t, append(row(255, 2*65537), 0, 1), 0xfffe)
	checkWords(t, bytes.Repeat(joined(0x8000), 65536), 0x7fff) // 2^31: 8000 is carried
	checkWords(t, bytes.Repeat(joined(0x8000), 131072), 0xfffe)
	checkWords(t, bytes.Repeat(joined(0xffff, 1), 50000), ^uint16(50000))
}

func TestWordsOfAllSamples(t *testing.T) {
	for _, b := range samples() {
		checkWords(t, b, modelWords(b))
	}
}

func TestSealed(t *testing.T) {
	b := example()
	b[10], b[11] = 0xb8, 0x61
	if !sum.Sealed(b) {
		t.Error("the sum stands in the bytes, but they are not sealed")
	}
	b[10], b[11] = 0x61, 0xb8
	if sum.Sealed(b) {
		t.Error("the sum stands in the wrong order, but the bytes are sealed")
	}
	if sum.Sealed(example()) {
		t.Error("no sum stands in the bytes, but they are sealed")
	}
}

func TestSealedOfRowsWithTheirSum(t *testing.T) {
	for _, n := range []int{0, 2, 4, 20, 64, 1500, 65536, 200000} {
		for _, b := range [][]byte{mixed(n), row(0, n), row(255, n), row(128, n)} {
			if !sum.Sealed(sealed(b)) {
				t.Errorf("%d bytes with their sum are not sealed", n)
			}
		}
	}
}

// No change of one byte adds up to 65535, so none of them is missed.
func TestSealedOfAChangedByte(t *testing.T) {
	for _, whole := range [][]byte{sealed(example()), sealed(mixed(8)), sealed(row(255, 6)), sealed(row(0, 6))} {
		for i := range whole {
			for d := 1; d < 256; d++ {
				b := slices.Clone(whole)
				b[i] += byte(d)
				if sum.Sealed(b) {
					t.Errorf("% x is sealed, and so is % x", b, whole)
				}
			}
		}
	}
}

func TestSealedOfNothing(t *testing.T) {
	for _, n := range []int{1, 2, 3, 20, 21, 65536, 200001} {
		if sum.Sealed(row(0, n)) {
			t.Errorf("%d bytes that are 0 are sealed", n)
		}
	}
	if sum.Sealed(nil) || sum.Sealed([]byte{}) {
		t.Error("no bytes are sealed")
	}
}

func TestSealedOfOddRows(t *testing.T) {
	for c := range 256 {
		if sum.Sealed([]byte{byte(c)}) {
			t.Errorf("the byte %d alone is sealed", c)
		}
	}
	if !sum.Sealed([]byte{0, 0xff, 0xff}) || sum.Sealed([]byte{0xff, 0, 0xff}) {
		t.Error("an odd row is not completed behind its end")
	}
}

func TestSealedOfAllSamples(t *testing.T) {
	for _, b := range samples() {
		if got, want := sum.Sealed(b), modelWords(b) == 0; got != want {
			t.Errorf("Sealed of %d bytes = %v", len(b), got)
		}
	}
}

// P4.2

func checkCheck(t *testing.T, b []byte, want uint32) {
	t.Helper()
	if got := sum.Check(b); got != want {
		t.Errorf("Check of %d bytes, % x .. = %08x, want %08x", len(b), b[:min(len(b), 16)], got, want)
	}
}

// library is the same sum as the Go library has it, by tables.
func library(b []byte) uint32 { return crc32.Checksum(b, crc32.MakeTable(crc32.Castagnoli)) }

func TestCheckOfKnownRows(t *testing.T) {
	checkCheck(t, nil, 0)
	checkCheck(t, []byte{}, 0)
	checkCheck(t, []byte("123456789"), 0xe3069283)
	checkCheck(t, []byte{0}, 0x527d5351)
	checkCheck(t, []byte{255}, 0xff000000) // the eight bits are 0 then, and nothing is combined
	checkCheck(t, row(255, 4), 0xffffffff) // the register is 0
	checkCheck(t, row(0, 32), 0x8a9136aa)
	checkCheck(t, row(255, 32), 0x62a8ab43)
	rising := make([]byte, 32)
	for i := range rising {
		rising[i] = byte(i)
	}
	checkCheck(t, rising, 0x46dd794e)
	slices.Reverse(rising)
	checkCheck(t, rising, 0x113fdb5c)
}

func TestCheckOfEachByte(t *testing.T) {
	told := map[uint32]int{}
	for c := range 256 {
		b := []byte{byte(c)}
		checkCheck(t, b, library(b))
		told[sum.Check(b)] = c
	}
	if len(told) != 256 {
		t.Errorf("the 256 bytes have %d sums", len(told))
	}
}

func TestCheckOfAnotherBit(t *testing.T) {
	for _, whole := range [][]byte{{0}, []byte("123456789"), mixed(64), row(0, 33), row(255, 40), mixed(700)} {
		before := sum.Check(whole)
		for i := range len(whole) * 8 {
			b := slices.Clone(whole)
			b[i/8] ^= 1 << (i % 8)
			checkCheck(t, b, library(b))
			if sum.Check(b) == before {
				t.Errorf("bit %d of %d bytes makes no difference", i, len(whole))
			}
		}
	}
}

func TestCheckHeedsOrderAndLength(t *testing.T) {
	if sum.Check([]byte{1, 2}) == sum.Check([]byte{2, 1}) {
		t.Error("two bytes have the sum of the same ones in turn")
	}
	told := map[uint32]int{}
	for n := range 300 {
		told[sum.Check(row(0, n))] = n
	}
	if len(told) != 300 {
		t.Errorf("300 rows of 0 have %d sums", len(told))
	}
}

func TestCheckOfAllSamples(t *testing.T) {
	for _, b := range samples() {
		checkCheck(t, b, library(b))
	}
	long := mixed(1 << 22)
	checkCheck(t, long, library(long))
}

// P4.1 and P4.2

func TestBytesAreLeftAsTheyAre(t *testing.T) {
	for _, given := range samples() {
		room := append(slices.Clone(given), 171, 205) // what stands behind an odd row is not the 0 that completes it
		b := room[:len(given)]
		words, whole, check := sum.Words(b), sum.Sealed(b), sum.Check(b)
		if !bytes.Equal(b, given) || !bytes.Equal(room[len(given):], []byte{171, 205}) {
			t.Errorf("%d bytes were changed", len(given))
		}
		if words != modelWords(given) || whole != (words == 0) || check != library(given) {
			t.Errorf("what stands behind %d bytes makes a difference", len(given))
		}
		if sum.Words(b) != words || sum.Sealed(b) != whole || sum.Check(b) != check {
			t.Errorf("%d bytes have other sums when asked again", len(given))
		}
	}
}
