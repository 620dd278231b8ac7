package held_test

import (
	"slices"
	"strings"
	"testing"

	"terrier/api"
	"terrier/held"
)

const (
	maxHolders = 48
	lastAddr   = api.Addr(0xffffffff)
)

// holderOf has an owner and a station that tell the address.
func holderOf(a api.Addr) api.Holder {
	owner := "o" + string(rune('a'+a%26)) + string(rune('0'+a%10))
	return api.Holder{Addr: a, Owner: owner, Mac: api.Mac{2, 0, byte(a >> 24), byte(a >> 16), byte(a >> 8), byte(a)}}
}

func rowOf(as ...api.Addr) []api.Holder {
	var hs []api.Holder
	for _, a := range as {
		hs = append(hs, holderOf(a))
	}
	return hs
}

// rising has n holders, 10 addresses apart; between them, and on both sides, is room.
func rising(n int) []api.Holder {
	var hs []api.Holder
	for i := range n {
		hs = append(hs, holderOf(api.Addr(100+10*i)))
	}
	return hs
}

// withOwner is a list in which the holder at a place has another owner.
func withOwner(hs []api.Holder, i int, owner string) []api.Holder {
	hs = slices.Clone(hs)
	hs[i].Owner = owner
	return hs
}

// withAddr is a list in which the holder at a place has another address.
func withAddr(hs []api.Holder, i int, a api.Addr) []api.Holder {
	hs = slices.Clone(hs)
	hs[i].Addr = a
	return hs
}

var wrongOwners = []string{
	"", "a23456789", "Ann", "anN", "a b", " a", "a ", "a-b", "a_b", "a.b", "a\n", "\x00", "a\x00", "\xff", "ä", "é1", "ſ", "ａ", "１", "٣", strings.Repeat("a", 1000), strings.Repeat("A", 8),
}

// P11.1: May

// isOwnerByte names each byte that may be, rather than ranges of them.
func isOwnerByte(c byte) bool {
	return strings.IndexByte("abcdefghijklmnopqrstuvwxyz0123456789", c) >= 0
}

func checkMay(t *testing.T, owner string, want bool) {
	t.Helper()
	if got := held.May(owner); got != want {
		t.Errorf("May(%q) = %v", owner, got)
	}
}

func TestMay(t *testing.T) {
	for _, owner := range []string{"a", "z", "0", "9", "ann", "x9", "9x", "42", "00", "a1b2c3d4", "abcdefgh", "12345678", "zzzzzzzz", "99999999"} {
		checkMay(t, owner, true)
	}
	for _, owner := range wrongOwners {
		checkMay(t, owner, false)
	}
}

func TestMayByLength(t *testing.T) {
	for n := range 40 {
		for _, c := range []string{"a", "z", "0", "9"} {
			checkMay(t, strings.Repeat(c, n), n >= 1 && n <= 8)
		}
	}
	// Eight letters, but more bytes.
	checkMay(t, "abcdefgé", false)
	checkMay(t, strings.Repeat("é", 4), false)
	checkMay(t, strings.Repeat("a", 1<<8), false)
	checkMay(t, strings.Repeat("a", 1<<8+1), false)
	checkMay(t, strings.Repeat("a", 1<<16+8), false)
}

// Every byte, at every place of owners of every length.
func TestMayByBytes(t *testing.T) {
	for n := 1; n <= 9; n++ {
		for at := range n {
			for c := range 256 {
				owner := []byte("k7k7k7k7k")[:n]
				owner[at] = byte(c)
				checkMay(t, string(owner), n <= 8 && isOwnerByte(byte(c)))
			}
		}
	}
}

func TestMayByBytesThatAreJustInsideAndJustOutside(t *testing.T) {
	for c, want := range map[string]bool{
		"a": true, "b": true, "y": true, "z": true, "`": false, "{": false,
		"0": true, "1": true, "8": true, "9": true, "/": false, ":": false,
		"A": false, "Z": false, "@": false, "[": false,
		"\x00": false, "\x7f": false, "\x80": false, "\xb0": false, "\xb9": false, "\xe1": false, "\xfa": false, "\xff": false,
	} {
		for _, rest := range []string{"", "a", "0", "abcdefg", "1234567"} {
			checkMay(t, c+rest, want)
			checkMay(t, rest+c, want)
		}
	}
}

// P11.1: Right

func checkRight(t *testing.T, hs []api.Holder, want bool) {
	t.Helper()
	before := slices.Clone(hs)
	if got := held.Right(hs); got != want {
		t.Errorf("Right(%v) = %v", hs, got)
	}
	if !slices.Equal(hs, before) {
		t.Errorf("Right changed %v to %v", before, hs)
	}
}

func TestRightByLength(t *testing.T) {
	checkRight(t, nil, true)
	checkRight(t, []api.Holder{}, true)
	for _, n := range []int{0, 1, 2, 3, 46, 47, 48, 49, 50, 95, 96, 97, 1000} {
		checkRight(t, rising(n), n <= maxHolders)
	}
}

func TestRightByAddresses(t *testing.T) {
	for _, n := range []int{2, 3, 5, 47, 48} {
		hs := rising(n)
		for i := range n - 1 {
			here, next := hs[i].Addr, hs[i+1].Addr
			checkRight(t, withAddr(hs, i, next), false)   // equal
			checkRight(t, withAddr(hs, i+1, here), false) // equal
			checkRight(t, withAddr(hs, i, next+1), false) // decreases
			checkRight(t, withAddr(hs, i+1, here-1), false)
			checkRight(t, withAddr(hs, i, next-1), true)
			checkRight(t, withAddr(hs, i+1, here+1), true)
		}
		checkRight(t, withAddr(hs, 0, lastAddr), false)
		checkRight(t, withAddr(hs, n-1, 0), false)
		checkRight(t, withAddr(hs, 0, 0), true)
		checkRight(t, withAddr(hs, n-1, lastAddr), true)
		checkRight(t, withAddr(withAddr(hs, 0, 0), n-1, lastAddr), true)
		slices.Reverse(hs)
		checkRight(t, hs, false)
	}
	for _, a := range []api.Addr{0, 1, 0x7fffffff, 0x80000000, lastAddr - 1, lastAddr} {
		checkRight(t, rowOf(a), true)
		checkRight(t, rowOf(a, a), false)
	}
	checkRight(t, rowOf(0, 1), true)
	checkRight(t, rowOf(1, 0), false)
	checkRight(t, rowOf(0, lastAddr), true)
	checkRight(t, rowOf(lastAddr, 0), false)
	checkRight(t, rowOf(lastAddr-1, lastAddr), true)
	checkRight(t, rowOf(lastAddr, lastAddr-1), false)
	checkRight(t, rowOf(0, 0, 1), false)
	checkRight(t, rowOf(lastAddr-1, lastAddr, lastAddr), false)
	// As signed numbers, and as differences, these are the other way round.
	checkRight(t, rowOf(0x7fffffff, 0x80000000), true)
	checkRight(t, rowOf(0x80000000, 0x7fffffff), false)
	checkRight(t, rowOf(1, 0x90000000), true)
	checkRight(t, rowOf(0x90000000, 1), false)
	// Two that are not side by side are equal, or decrease.
	checkRight(t, rowOf(5, 9, 5), false)
	checkRight(t, rowOf(5, 9, 7), false)
}

func TestRightByOwners(t *testing.T) {
	for _, n := range []int{1, 2, 3, 47, 48} {
		hs := rising(n)
		for i := range n {
			for _, owner := range wrongOwners {
				checkRight(t, withOwner(hs, i, owner), false)
			}
			for _, owner := range []string{"a", "9", "a1b2c3d4", hs[0].Owner} {
				checkRight(t, withOwner(hs, i, owner), true)
			}
		}
	}
	// One owner may have several addresses, and any station may be.
	same := []api.Holder{{Addr: 1, Owner: "ann"}, {Addr: 2, Owner: "ann"}, {Addr: 3, Owner: "ann", Mac: api.Mac{255, 255, 255, 255, 255, 255}}}
	checkRight(t, same, true)
}

func TestRightWithSeveralFaults(t *testing.T) {
	checkRight(t, make([]api.Holder, 1), false)
	checkRight(t, make([]api.Holder, 49), false)
	checkRight(t, withOwner(rowOf(7, 7), 0, ""), false)
	checkRight(t, withOwner(rising(49), 48, ""), false)
}
