package mac_test

import (
	"fmt"
	"strings"
	"testing"

	"terrier/api"
	"terrier/mac"
)

var someMacs = []api.Mac{
	{}, {2, 0, 0, 0, 0, 0x0a}, {2, 0, 0x1a, 0xff, 0, 9}, {0x12, 0x34, 0x56, 0x78, 0x9a, 0xbc}, {0xab, 0xcd, 0xef, 0xfe, 0xdc, 0xba},
	{0x10, 0x0f, 0xf0, 0x01, 0x99, 0xa0}, {0x80, 0x7f, 0x81, 0x90, 0x09, 0xaf}, {0xff, 0xff, 0xff, 0xff, 0xff, 0xff}, {0, 0, 0, 0, 0, 1}, {1},
}

// modelText writes a number by another way than the package's.
func modelText(m api.Mac, digits, separator string) string {
	pairs := make([]string, len(m))
	for i, b := range m {
		pairs[i] = fmt.Sprintf(digits, b)
	}
	return strings.Join(pairs, separator)
}

// everyByte is each byte at each place, its neighbours all the same other byte.
func everyByte() []api.Mac {
	var list []api.Mac
	for place := range 6 {
		for n := range 256 {
			for _, fill := range []byte{0, 0x5a} {
				m := api.Mac{fill, fill, fill, fill, fill, fill}
				m[place] = byte(n)
				list = append(list, m)
			}
		}
	}
	return list
}

func checkParse(t *testing.T, s string, want api.Mac) {
	t.Helper()
	if m, ok := mac.Parse(s); m != want || !ok {
		t.Errorf("Parse(%q) = %v, %v, want %v", s, m, ok, want)
	}
}

func checkRefused(t *testing.T, s string) {
	t.Helper()
	if m, ok := mac.Parse(s); m != (api.Mac{}) || ok {
		t.Errorf("Parse(%q) = %v, %v", s, m, ok)
	}
}

// P2.1

func TestText(t *testing.T) {
	for want, m := range map[string]api.Mac{
		"00:00:00:00:00:00": {},
		"02:00:00:00:00:0a": {2, 0, 0, 0, 0, 10},
		"01:23:45:67:89:ab": {0x01, 0x23, 0x45, 0x67, 0x89, 0xab},
		"cd:ef:fe:dc:ba:98": {0xcd, 0xef, 0xfe, 0xdc, 0xba, 0x98},
		"ff:ff:ff:ff:ff:ff": {255, 255, 255, 255, 255, 255},
	} {
		if s := mac.Text(m); s != want {
			t.Errorf("Text(%v) = %q, want %q", m, s, want)
		}
	}
}

func TestEveryByteAtEveryPlace(t *testing.T) {
	for _, m := range everyByte() {
		if s, want := mac.Text(m), modelText(m, "%02x", ":"); s != want {
			t.Errorf("Text(%v) = %q, want %q", m, s, want)
		}
		for _, separator := range []string{":", "-"} {
			checkParse(t, modelText(m, "%02x", separator), m)
			checkParse(t, modelText(m, "%02X", separator), m)
		}
	}
}

// Each digit is of its own case: all the ways in which the letters of a number can be written.
func TestParseReadsDigitsOfEitherCase(t *testing.T) {
	for _, separator := range []string{":", "-"} {
		for _, m := range []api.Mac{{0xab, 0xcd, 0xef, 0xfe, 0xdc, 0xba}, {0x0a, 0xb1, 0xc2, 0x3d, 0x4e, 0xf5}} {
			lower := modelText(m, "%02x", separator)
			for mask := range 1 << 12 {
				checkParse(t, withCase(lower, mask), m)
			}
		}
	}
}

// withCase raises those digits of a text whose bits are set.
func withCase(s string, mask int) string {
	text, place := []byte(s), 0
	for i := range text {
		if i%3 == 2 {
			continue
		}
		if mask>>place&1 == 1 {
			text[i] = strings.ToUpper(s)[i]
		}
		place++
	}
	return string(text)
}

func TestParseOfSeparators(t *testing.T) {
	for _, m := range someMacs {
		plain := modelText(m, "%02x", ":")
		for mask := range 1 << 5 {
			s := withHyphens(plain, mask)
			if mask == 0 || mask == 1<<5-1 {
				checkParse(t, s, m)
			} else {
				checkRefused(t, s)
			}
		}
	}
}

// withHyphens puts hyphens for those colons of a text whose bits are set.
func withHyphens(s string, mask int) string {
	text := []byte(s)
	for place := range 5 {
		if mask>>place&1 == 1 {
			text[place*3+2] = '-'
		}
	}
	return string(text)
}

func TestParseRefusesOtherSeparators(t *testing.T) {
	for _, m := range someMacs {
		for c := range 256 {
			if c != ':' && c != '-' {
				checkRefused(t, modelText(m, "%02x", string([]byte{byte(c)})))
			}
		}
	}
}

func TestParseRefusesOtherDigits(t *testing.T) {
	for _, m := range someMacs {
		for _, separator := range []string{":", "-"} {
			s := modelText(m, "%02x", separator)
			for i := range len(s) {
				for c := range 256 {
					if !strings.ContainsRune("0123456789abcdefABCDEF", rune(c)) && string([]byte{byte(c)}) != separator {
						checkRefused(t, s[:i]+string([]byte{byte(c)})+s[i+1:])
					}
				}
			}
		}
	}
}

func TestParseRefusesBytesBesideTheDigits(t *testing.T) {
	for _, c := range []string{"/", ":", "@", "G", "`", "g", "-", "\x00", "\x7f", "\x80", "\xff"} {
		for place := range 17 {
			s := "02:00:1a:ff:00:09"
			if s[place] != c[0] {
				checkRefused(t, s[:place]+c+s[place+1:])
			}
		}
	}
}

func TestParseRefusesOtherLengths(t *testing.T) {
	for _, m := range someMacs {
		for _, separator := range []string{":", "-"} {
			s := modelText(m, "%02x", separator)
			for i := range len(s) {
				checkRefused(t, s[:i])
				checkRefused(t, s[:i]+s[i+1:])
			}
			for i := range len(s) + 1 {
				for _, c := range []string{"0", "a", "F", ":", "-", " ", "\x00"} {
					checkRefused(t, s[:i]+c+s[i:])
				}
			}
		}
	}
}

func TestParseRefusesWhatHasAnotherForm(t *testing.T) {
	for _, s := range []string{
		"", ":", "-", "0", "00", ":::::", "-----", "02001aff0009", "02:00:1a:ff:00", "02:00:1a:ff:00:", ":02:00:1a:ff:00:09", "02:00:1a:ff:00:09:",
		"02:00:1a:ff:00:09:01", "02:00:1a:ff:00:091", "2:0:1a:ff:0:9", "002:00:1a:ff:0:09", "0:200:1a:ff:00:09", "020:0:1a:ff:00:09",
		"02::00:1a:ff:0:09", "0200:1a:ff:00:09:", "0200.1aff.0009", "02 00 1a ff 00 09", " 2:00:1a:ff:00:09", "02:00:1a:ff:00:9 ",
		"0x:00:1a:ff:00:09", "+2:00:1a:ff:00:09", "-2:00:1a:ff:00:09", "-2-00-1a-ff-00-09", "02:00:1a:ff:00:-9", "02:00:1a:ff:00:09\n",
		"::::::::::::::::::", ":::::::::::::::::", "-----------------", strings.Repeat("0", 17), strings.Repeat("\u0660", 17),
		"\u0660:00:1a:ff:00:09", "\uff10:00:1a:ff:00:9", "02:00:1a:ff:00:09" + strings.Repeat(":00", 1000),
	} {
		checkRefused(t, s)
	}
}

// P2.2

func TestNone(t *testing.T) {
	if !mac.None(api.Mac{}) {
		t.Error("zero is none")
	}
	for bit := range 48 {
		if m := oneBit(bit); mac.None(m) {
			t.Errorf("None(%v)", m)
		}
	}
	for _, m := range everyByte() {
		if mac.None(m) != (modelText(m, "%02x", "") == "000000000000") {
			t.Errorf("None(%v)", m)
		}
	}
}

func oneBit(bit int) api.Mac {
	m := api.Mac{}
	m[bit/8] = 1 << (bit % 8)
	return m
}

func TestGroupLooksAtOneBitOnly(t *testing.T) {
	if mac.Group(api.Mac{}) || mac.Group(api.Mac{0xfe, 255, 255, 255, 255, 255}) || !mac.Group(api.Mac{255, 255, 255, 255, 255, 255}) {
		t.Error("none, all but one, and all of the bits")
	}
	for bit := range 48 {
		m := oneBit(bit)
		if mac.Group(m) != (bit == 0) {
			t.Errorf("Group(%v)", m)
		}
		m[0] |= 1
		if !mac.Group(m) {
			t.Errorf("Group(%v) with the bit set", m)
		}
	}
	for n := range 256 {
		if m := (api.Mac{byte(n), 1, 1, 1, 1, 1}); mac.Group(m) != (n%2 == 1) {
			t.Errorf("Group(%v)", m)
		}
	}
}

func checkOrder(t *testing.T, less, more api.Mac) {
	t.Helper()
	if got := mac.Compare(less, more); got != -1 {
		t.Errorf("Compare(%v, %v) = %d", less, more, got)
	}
	if got := mac.Compare(more, less); got != 1 {
		t.Errorf("Compare(%v, %v) = %d", more, less, got)
	}
}

func TestCompareOfEqualNumbers(t *testing.T) {
	for _, m := range append(everyByte(), someMacs...) {
		if got := mac.Compare(m, m); got != 0 {
			t.Errorf("Compare(%v, %v) = %d", m, m, got)
		}
	}
}

// The first byte that differs decides, whatever stands behind it.
func TestCompareAtEachByte(t *testing.T) {
	for place := range 6 {
		for _, c := range [][2]byte{{0, 1}, {0, 255}, {1, 2}, {127, 128}, {128, 129}, {254, 255}, {0x1f, 0x20}} {
			for _, behind := range [][2]byte{{0, 0}, {255, 0}, {0, 255}} {
				less, more := api.Mac{7, 7, 7, 7, 7, 7}, api.Mac{7, 7, 7, 7, 7, 7}
				less[place], more[place] = c[0], c[1]
				for i := place + 1; i < 6; i++ {
					less[i], more[i] = behind[0], behind[1]
				}
				checkOrder(t, less, more)
			}
		}
	}
}

func TestCompareIsTheOrderOfTexts(t *testing.T) {
	list := append(everyByte()[:600], someMacs...)
	for _, a := range list {
		for _, b := range list {
			if got, want := mac.Compare(a, b), strings.Compare(modelText(a, "%02x", ""), modelText(b, "%02x", "")); got != want {
				t.Errorf("Compare(%v, %v) = %d, want %d", a, b, got, want)
			}
		}
	}
}
