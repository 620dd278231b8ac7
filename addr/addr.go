// Package addr has addresses and prefixes: layer 1.
package addr

import (
	"strconv"
	"strings"

	"terrier/api"
)

const (
	width   = 32  // bits of an address
	octets  = 4   // bytes of an address
	maxByte = 255 // of an address's text
)

// Text is an address as four numbers.
func Text(a api.Addr) string {
	return byteText(a>>24) + "." + byteText(a>>16) + "." + byteText(a>>8) + "." + byteText(a)
}

func byteText(a api.Addr) string { return strconv.Itoa(int(a & maxByte)) }

// Parse is the address of a text.
func Parse(s string) (api.Addr, bool) {
	a := api.Addr(0)
	rest := s
	for i := range octets {
		part, after, more := strings.Cut(rest, ".")
		if more != (i < octets-1) {
			return 0, false
		}
		n, ok := number(part, maxByte)
		if !ok {
			return 0, false
		}
		a = a<<8 | api.Addr(n)
		rest = after
	}
	return a, true
}

// number reads a number from 0 to most, in the one way in which it is written.
func number(s string, most int) (int, bool) {
	if s == "" || (s[0] == '0' && s != "0") {
		return 0, false
	}
	n := 0
	for i := range len(s) {
		if s[i] < '0' || s[i] > '9' {
			return 0, false
		}
		n = n*10 + int(s[i]-'0')
		// Checked at each digit, so that a long text can't wrap n round.
		if n > most {
			return 0, false
		}
	}
	return n, true
}

// Right tells whether a prefix is one; Make is the one of an address.
func Right(b api.Block) bool {
	return rightBits(b.Bits) && b.Base&^mask(b.Bits) == 0
}

func Make(a api.Addr, bits int) (api.Block, bool) {
	if !rightBits(bits) {
		return api.Block{}, false
	}
	return api.Block{Base: a & mask(bits), Bits: bits}, true
}

func rightBits(bits int) bool { return bits >= 0 && bits <= width }

// mask has the first bits set; they are from 0 to 32, since a shift by less than 0 panics.
func mask(bits int) api.Addr { return ^api.Addr(0) << (width - bits) }

// BlockText is a prefix as a text; ParseBlock the prefix of one.
func BlockText(b api.Block) string {
	return Text(b.Base) + "/" + strconv.Itoa(b.Bits)
}

func ParseBlock(s string) (api.Block, bool) {
	before, after, _ := strings.Cut(s, "/")
	base, ok := Parse(before)
	if !ok {
		return api.Block{}, false
	}
	bits, ok := number(after, width)
	if !ok {
		return api.Block{}, false
	}
	b := api.Block{Base: base, Bits: bits}
	if !Right(b) {
		return api.Block{}, false
	}
	return b, true
}

// Has tells whether an address is a prefix's; Within whether all of a prefix is another one's; Overlap whether some is.
func Has(b api.Block, a api.Addr) bool {
	return Right(b) && a&mask(b.Bits) == b.Base
}

func Within(in, out api.Block) bool {
	return Right(in) && Has(out, in.Base) && in.Bits >= out.Bits
}

func Overlap(x, y api.Block) bool {
	return Within(x, y) || Within(y, x)
}

// Size is how many addresses a prefix has; At is the one at a place.
func Size(b api.Block) int {
	if !Right(b) {
		return 0
	}
	return 1 << (width - b.Bits)
}

func At(b api.Block, k int) (api.Addr, bool) {
	if k < 0 || k >= Size(b) {
		return 0, false
	}
	return b.Base + api.Addr(k), true
}

// Halves are a prefix's two halves; Whole is the prefix whose halves two are.
func Halves(b api.Block) (api.Block, api.Block, bool) {
	if !Right(b) || b.Bits == width {
		return api.Block{}, api.Block{}, false
	}
	bits := b.Bits + 1
	upper := b.Base | api.Addr(1)<<(width-bits)
	return api.Block{Base: b.Base, Bits: bits}, api.Block{Base: upper, Bits: bits}, true
}

func Whole(x, y api.Block) (api.Block, bool) {
	// Only the prefix one bit shorter can have x as its half, so it is made and held against both.
	b, ok := Make(x.Base, x.Bits-1)
	if !ok {
		return api.Block{}, false
	}
	lower, upper, ok := Halves(b)
	if !ok || lower != x || upper != y {
		return api.Block{}, false
	}
	return b, true
}
