package lines_test

import (
	"errors"
	"fmt"
	"math"
	"math/big"
	"math/rand"
	"net/netip"
	"regexp"
	"slices"
	"strconv"
	"strings"
	"testing"

	"terrier/api"
	"terrier/lines"
)

// reader is Neighbour or Lease.
type reader func(string) (lines.Row, error)

const (
	one     = api.Addr(0x0a000001)
	oneText = "10.0.0.1"
	macText = "02:00:00:00:00:01"
)

var station = api.Mac{2, 0, 0, 0, 0, 1}

func shown(s string) string {
	if len(s) > 60 {
		return fmt.Sprintf("%q.. (%d bytes)", s[:60], len(s))
	}
	return strconv.Quote(s)
}

func checkRead(t *testing.T, read reader, s string, want lines.Row) {
	t.Helper()
	if r, err := read(s); r != want || err != nil {
		t.Errorf("%s is read as %+v, %v; want %+v, nil", shown(s), r, err, want)
	}
}

func checkRefused(t *testing.T, read reader, s string, want api.Errno) {
	t.Helper()
	r, err := read(s)
	if r != (lines.Row{}) || err == nil {
		t.Errorf("%s is read as %+v, %v; want the zero Row, %v", shown(s), r, err, want)
		return
	}
	checkErrno(t, shown(s), err, want)
	if _, again := read(s); again != err {
		t.Errorf("%s: %v, and then %v", shown(s), err, again)
	}
}

// checkErrno holds an error against all numbers: errors.Is finds the one that it wraps, and no other one.
func checkErrno(t *testing.T, what string, err error, want api.Errno) {
	t.Helper()
	for n := api.Errno(0); n <= api.ErrArgument+1; n++ {
		if errors.Is(err, n) != (n == want) {
			t.Errorf("%s: is %v error %d, want %d", what, err, n, want)
		}
	}
	if number := api.Errno(0); !errors.As(err, &number) || number != want {
		t.Errorf("%s: errors.As finds %d in %v, want %d", what, number, err, want)
	}
	if errors.Unwrap(err) == nil {
		t.Errorf("%s: %v wraps nothing", what, err)
	}
	if err.Error() == "" {
		t.Errorf("%s: an error without words", what)
	}
	if n := lines.Number(err); n != want {
		t.Errorf("%s: Number of %v is %d, want %d", what, err, n, want)
	}
	if at, ok := lines.Place(err); at != 0 || ok {
		t.Errorf("%s: Place of %v is %d, %v", what, err, at, ok)
	}
}

// A model of another shape: a line is taken apart by an expression, and its parts are read by the library.

var (
	fourWords  = regexp.MustCompile(`^([^ ]*) ([^ ]*) ([^ ]*) ([^ ]*)$`)
	macForm    = regexp.MustCompile(`^[0-9A-Fa-f]{2}((:[0-9A-Fa-f]{2}){5}|(-[0-9A-Fa-f]{2}){5})$`)
	numberForm = regexp.MustCompile(`^(0|-?[1-9][0-9]*)$`)
)

func modelStation(where, who string) (lines.Row, api.Errno) {
	ip, err := netip.ParseAddr(where)
	if err != nil || !ip.Is4() || !macForm.MatchString(who) {
		return lines.Row{}, api.ErrForm
	}
	four := ip.As4()
	r := lines.Row{Addr: api.Addr(four[0])<<24 | api.Addr(four[1])<<16 | api.Addr(four[2])<<8 | api.Addr(four[3])}
	for i := range r.Mac {
		n, _ := strconv.ParseUint(who[3*i:3*i+2], 16, 8)
		r.Mac[i] = byte(n)
	}
	if r.Mac[0]%2 == 1 || r.Mac == (api.Mac{}) {
		return lines.Row{}, api.ErrRange
	}
	return r, 0
}

func modelNeighbour(s string) (lines.Row, api.Errno) {
	w := fourWords.FindStringSubmatch(s)
	switch {
	case len(s) > 200 || w == nil || w[2] != "lladdr":
		return lines.Row{}, api.ErrForm
	case w[4] == "FAILED" || w[4] == "INCOMPLETE":
		return lines.Row{}, api.ErrState
	case w[4] == "REACHABLE" || w[4] == "STALE" || w[4] == "DELAY":
		return modelStation(w[1], w[3])
	}
	return lines.Row{}, api.ErrForm
}

func modelLease(s string) (lines.Row, api.Errno) {
	w := fourWords.FindStringSubmatch(s)
	if len(s) > 200 || w == nil || w[1] != "lease" || !numberForm.MatchString(w[4]) {
		return lines.Row{}, api.ErrForm
	}
	n, _ := new(big.Int).SetString(w[4], 10)
	if !n.IsInt64() {
		return lines.Row{}, api.ErrForm
	}
	if n.Sign() < 0 || n.Cmp(big.NewInt(1<<40)) > 0 {
		return lines.Row{}, api.ErrRange
	}
	r, e := modelStation(w[2], w[3])
	if e == 0 {
		r.Until = int(n.Int64())
	}
	return r, e
}

func checkModel(t *testing.T, read reader, model func(string) (lines.Row, api.Errno), s string) {
	t.Helper()
	want, e := model(s)
	r, err := read(s)
	if r != want || (err == nil) != (e == 0) || e != 0 && !errors.Is(err, e) {
		t.Errorf("%s is read as %+v, %v; want %+v, %d", shown(s), r, err, want, e)
	}
}

// Words that are right and wrong, for every place of a line.
var (
	someAddrs = []string{oneText, "0.0.0.0", "255.255.255.255", "1.2.3.4", "10.0.0", "10.0.0.256", "010.0.0.1", "10.0.0.1.", "::1", "10.0.0.1/32", "x", "", "lease"}
	someMacs  = []string{
		macText, "02-00-00-00-00-0A", "fe:ff:ff:ff:ff:ff", "00:00:00:00:00:01", "aA:Bb:cC:Dd:eE:Ff", "00:00:00:00:00:00", "00-00-00-00-00-00", "01:00:00:00:00:01", "ff-ff-ff-ff-ff-ff",
		"02:00:00:00:00", "02:00-00:00:00:01", "02:00:00:00:00:0g", "020000000001", "02:00:00:00:00:01:", "00:00:00:00:00:00:00", "01:00:00:00:00", "x", "", "lladdr",
	}
	someStates = []string{"REACHABLE", "STALE", "DELAY", "FAILED", "INCOMPLETE", "NONE", "PROBE", "PERMANENT", "Reachable", "stale", "delay", "failed", "Incomplete", "FAILE", "FAILEDX", "STALE\n", "", "0", "500"}
	someTicks  = []string{
		"0", "1", "500", "1099511627775", "1099511627776", "1099511627777", "-1", "-500", "-1099511627776", "9223372036854775807", "-9223372036854775808",
		"9223372036854775808", "-9223372036854775809", "18446744073709551616", "18446744073709551621", "01", "00", "+1", "+0", "-0", "-01", "--1", "", "-", "+", "5x", "x", "0x5", "1_0", "5.0", "1e3", "\u0665", "STALE",
	}
)

// P8.1

func TestStation(t *testing.T) {
	for s, want := range map[string]lines.Row{
		oneText + " " + macText:             {Addr: one, Mac: station},
		"0.0.0.0 00:00:00:00:00:01":         {Addr: 0, Mac: api.Mac{0, 0, 0, 0, 0, 1}},
		"255.255.255.255 FE-ff-FF-fF-Ff-ff": {Addr: math.MaxUint32, Mac: api.Mac{0xfe, 255, 255, 255, 255, 255}},
		"1.2.3.4 02-03-04-05-06-0A":         {Addr: 0x01020304, Mac: api.Mac{2, 3, 4, 5, 6, 10}},
		"192.168.0.1 00:01:01:01:01:01":     {Addr: 0xc0a80001, Mac: api.Mac{0, 1, 1, 1, 1, 1}},
		"10.0.0.255 80:00:00:00:00:00":      {Addr: 0x0a0000ff, Mac: api.Mac{0x80}},
		"128.0.0.0 aA:bB:cC:dD:eE:fF":       {Addr: 0x80000000, Mac: api.Mac{0xaa, 0xbb, 0xcc, 0xdd, 0xee, 0xff}},
		"224.0.0.1 0E:f0:00:00:00:00":       {Addr: 0xe0000001, Mac: api.Mac{0x0e, 0xf0}},
	} {
		where, who, _ := strings.Cut(s, " ")
		checkRead(t, lines.Neighbour, where+" lladdr "+who+" STALE", want)
		want.Until = 7
		checkRead(t, lines.Lease, "lease "+s+" 7", want)
	}
}

func checkStationRefused(t *testing.T, where, who string, want api.Errno) {
	t.Helper()
	for _, state := range []string{"REACHABLE", "STALE", "DELAY"} {
		checkRefused(t, lines.Neighbour, where+" lladdr "+who+" "+state, want)
	}
	for _, until := range []string{"0", "5", "1099511627776"} {
		checkRefused(t, lines.Lease, "lease "+where+" "+who+" "+until, want)
	}
}

var (
	noAddrs  = []string{"", "x", "10", "10.0.0", "10.0.0.1.", "10.0.0.1.1", "10.0.0.256", "10.0.0.01", "10.0.0.-1", "10.0.0.1/32", "::1", macText, "10.0.0.1\n", "\t10.0.0.1", "10,0,0,1"}
	noMacs   = []string{"", "x", "02", "02:00:00:00:00", "02:00:00:00:00:01:02", "02:00:00-00:00:01", "2:0:0:0:0:1", "02:00:00:00:00:0g", "020000000001", "0200.0000.0001", "01:00:00:00:00", oneText, macText + "\n"}
	notAlone = []string{"00:00:00:00:00:00", "00-00-00-00-00-00", "01:00:00:00:00:00", "01:00:00:00:00:01", "03-00-00-00-00-01", "ff:ff:ff:ff:ff:ff", "FF-FF-FF-FF-FF-FF", "33:33:00:00:00:01"}
)

func TestStationWithoutAddress(t *testing.T) {
	for _, where := range noAddrs {
		checkStationRefused(t, where, macText, api.ErrForm)
	}
}

func TestStationWithoutNumber(t *testing.T) {
	for _, who := range noMacs {
		checkStationRefused(t, oneText, who, api.ErrForm)
	}
}

func TestStationThatIsNoneOrGroup(t *testing.T) {
	for _, who := range notAlone {
		checkStationRefused(t, oneText, who, api.ErrRange)
	}
}

func TestStationOfEveryFirstByte(t *testing.T) {
	for n := range 256 {
		who := fmt.Sprintf("%02x:00:00:00:00:00", n)
		if n == 0 || n%2 == 1 {
			checkStationRefused(t, oneText, who, api.ErrRange)
			continue
		}
		checkRead(t, lines.Neighbour, oneText+" lladdr "+who+" DELAY", lines.Row{Addr: one, Mac: api.Mac{byte(n)}})
	}
}

// The address is looked at ahead of what its station's number is.
func TestStationWithBothWrong(t *testing.T) {
	for _, where := range noAddrs {
		for _, who := range slices.Concat(noMacs, notAlone) {
			checkStationRefused(t, where, who, api.ErrForm)
		}
	}
}

// The words of a station have an order.
func TestStationTheOtherWayRound(t *testing.T) {
	checkStationRefused(t, macText, oneText, api.ErrForm)
}

// P8.2

func TestNeighbour(t *testing.T) {
	for _, state := range []string{"REACHABLE", "STALE", "DELAY"} {
		checkRead(t, lines.Neighbour, oneText+" lladdr "+macText+" "+state, lines.Row{Addr: one, Mac: station})
	}
}

func TestNeighbourThatIsNotThere(t *testing.T) {
	for _, state := range []string{"FAILED", "INCOMPLETE"} {
		for _, where := range slices.Concat(noAddrs, []string{oneText}) {
			for _, who := range slices.Concat(noMacs, notAlone, []string{macText}) {
				checkRefused(t, lines.Neighbour, where+" lladdr "+who+" "+state, api.ErrState)
			}
		}
	}
}

func TestNeighbourOfAnotherState(t *testing.T) {
	for _, state := range []string{
		"NONE", "PROBE", "PERMANENT", "NOARP", "reachable", "Reachable", "stale", "Stale", "delay", "failed", "Failed", "FAILEd", "incomplete", "", "S", "STAL", "STALES", "FAILE", "FAILED.",
		"STALE\n", "FAILED\n", "\tSTALE", "STALE\x00", "STALE\u00a0", "\u017fTALE", "lladdr", "0",
	} {
		checkRefused(t, lines.Neighbour, oneText+" lladdr "+macText+" "+state, api.ErrForm)
		checkRefused(t, lines.Neighbour, oneText+" lladdr 01:00:00:00:00:01 "+state, api.ErrForm)
	}
}

// The second word is looked at ahead of the fourth one, and of the station.
func TestNeighbourOfAnotherSecondWord(t *testing.T) {
	for _, word := range []string{"", "at", "LLADDR", "Lladdr", "lladdR", "lladd", "lladdrs", "lladdr\n", "lladdr:", "dev", "lease", macText} {
		for _, state := range someStates {
			checkRefused(t, lines.Neighbour, oneText+" "+word+" "+macText+" "+state, api.ErrForm)
		}
		checkRefused(t, lines.Neighbour, oneText+" "+word+" 01:00:00:00:00:01 STALE", api.ErrForm)
		checkRefused(t, lines.Neighbour, "x "+word+" y FAILED", api.ErrForm)
	}
}

func TestNeighbourOfOtherWords(t *testing.T) {
	for _, s := range []string{
		"", " ", "  ", "   ", "    ", "FAILED", "lladdr", "lladdr FAILED", "x lladdr FAILED", "x y lladdr FAILED", "x lladdr y z FAILED", "x lladdr y FAILED z", "lladdr x y FAILED", "x y lladdr z FAILED",
		oneText, oneText + " lladdr", oneText + " lladdr " + macText, oneText + " lladdr " + macText + " STALE STALE", oneText + " dev eth0 lladdr " + macText + " STALE",
		" " + oneText + " lladdr " + macText + " STALE", oneText + " lladdr " + macText + " STALE ", oneText + "  lladdr " + macText + " STALE", oneText + " lladdr  " + macText + " STALE", oneText + " lladdr " + macText + "  STALE",
		" x lladdr y FAILED", "x lladdr y FAILED ", "x  lladdr y FAILED", "x lladdr  y FAILED", "x lladdr y  FAILED",
		oneText + "\tlladdr\t" + macText + "\tSTALE", oneText + " lladdr\t" + macText + " STALE", oneText + "\nlladdr " + macText + " STALE", oneText + "\u00a0lladdr " + macText + " STALE",
		"x lladdr y\tFAILED", "\x00", "\xff \xff \xff \xff", "lease " + oneText + " " + macText + " 5",
	} {
		checkRefused(t, lines.Neighbour, s, api.ErrForm)
	}
}

// A space beside another one, or at an end, has an empty word beside it, which counts as one of the four.
func TestNeighbourOfEmptyWords(t *testing.T) {
	for s, want := range map[string]api.Errno{
		"x lladdr  FAILED":                   api.ErrState,
		" lladdr x FAILED":                   api.ErrState,
		" lladdr  INCOMPLETE":                api.ErrState,
		"x  lladdr FAILED":                   api.ErrForm,
		"x lladdr FAILED ":                   api.ErrForm,
		oneText + " lladdr  STALE":           api.ErrForm,
		" lladdr " + macText + " STALE":      api.ErrForm,
		oneText + " lladdr " + macText + " ": api.ErrForm,
		oneText + "  " + macText + " STALE":  api.ErrForm,
	} {
		checkRefused(t, lines.Neighbour, s, want)
	}
}

// filled is a line of n bytes: the * in it is replaced by as many letters as that takes.
func filled(t *testing.T, s, letter string, n int) string {
	t.Helper()
	line := strings.Replace(s, "*", strings.Repeat(letter, (n-len(s)+1)/len(letter)), 1)
	if len(line) != n {
		t.Fatalf("%q can't be filled up to %d bytes", s, n)
	}
	return line
}

func TestNeighbourOfManyBytes(t *testing.T) {
	for _, s := range []string{"* lladdr y FAILED", "x lladdr * INCOMPLETE"} {
		for _, n := range []int{199, 200} {
			checkRefused(t, lines.Neighbour, filled(t, s, "x", n), api.ErrState)
		}
		for _, n := range []int{201, 202, 255, 256, 400, 456, 65736, 1 << 20} {
			checkRefused(t, lines.Neighbour, filled(t, s, "x", n), api.ErrForm)
		}
	}
	// Bytes count, not letters.
	checkRefused(t, lines.Neighbour, filled(t, "* lladdr yy FAILED", "\u00e4", 199), api.ErrState)
	checkRefused(t, lines.Neighbour, filled(t, "* lladdr y FAILED", "\u00e4", 200), api.ErrState)
	checkRefused(t, lines.Neighbour, filled(t, "* lladdr yy FAILED", "\u00e4", 201), api.ErrForm)
	checkRefused(t, lines.Neighbour, strings.Repeat(" ", 1<<16), api.ErrForm)
}

func TestNeighbourOfAllWordsAgainstModel(t *testing.T) {
	for _, where := range someAddrs {
		for _, second := range []string{"lladdr", "Lladdr", "at", ""} {
			for _, who := range someMacs {
				for _, state := range someStates {
					checkModel(t, lines.Neighbour, modelNeighbour, where+" "+second+" "+who+" "+state)
				}
			}
		}
	}
}

func TestNeighbourOfChangedLinesAgainstModel(t *testing.T) {
	for _, state := range []string{"REACHABLE", "STALE", "DELAY", "FAILED", "INCOMPLETE"} {
		for _, s := range changed("10.0.200.1 lladdr 02-aB:00:00:00:01 " + state) {
			checkModel(t, lines.Neighbour, modelNeighbour, s)
		}
		for _, s := range changed("10.0.200.1 lladdr 02:aB:00:00:00:01 " + state) {
			checkModel(t, lines.Neighbour, modelNeighbour, s)
		}
	}
}

// changed is a line with each byte put in, taken out or altered, everywhere.
func changed(s string) []string {
	var list []string
	for i := range len(s) + 1 {
		for c := range 256 {
			put := string([]byte{byte(c)})
			list = append(list, s[:i]+put+s[i:])
			if i < len(s) {
				list = append(list, s[:i]+put+s[i+1:])
			}
		}
		if i < len(s) {
			list = append(list, s[:i]+s[i+1:], s[:i], s[i:])
		}
	}
	return list
}

// P8.3

func TestLease(t *testing.T) {
	for text, n := range map[string]int{"0": 0, "1": 1, "9": 9, "10": 10, "500": 500, "4294967296": 1 << 32, "1099511627775": 1<<40 - 1, "1099511627776": 1 << 40} {
		checkRead(t, lines.Lease, "lease "+oneText+" "+macText+" "+text, lines.Row{Addr: one, Mac: station, Until: n})
	}
}

func checkTickRefused(t *testing.T, tick string, want api.Errno) {
	t.Helper()
	checkRefused(t, lines.Lease, "lease "+oneText+" "+macText+" "+tick, want)
	// The number is looked at ahead of the station.
	for _, who := range []string{"x", "", "00:00:00:00:00:00", "01:00:00:00:00:01"} {
		checkRefused(t, lines.Lease, "lease "+oneText+" "+who+" "+tick, want)
		checkRefused(t, lines.Lease, "lease x "+who+" "+tick, want)
	}
	checkRefused(t, lines.Lease, "lease x "+macText+" "+tick, want)
	// The first word is looked at ahead of the number.
	checkRefused(t, lines.Lease, "let "+oneText+" "+macText+" "+tick, api.ErrForm)
}

func TestLeaseUntilATickThatIsNone(t *testing.T) {
	for _, tick := range []string{"-1", "-2", "-500", "1099511627777", "1099511627778", "10995116277760", "-1099511627776", "9223372036854775806", "9223372036854775807", "-9223372036854775807", "-9223372036854775808"} {
		checkTickRefused(t, tick, api.ErrRange)
	}
}

func TestLeaseUntilNoNumber(t *testing.T) {
	for _, tick := range []string{
		"", "-", "+", "00", "01", "0500", "-01", "-00", "-0", "+0", "+1", "+500", "--1", "+-1", "-+1", "x", "5x", "x5", "5-", "0x5", "0b1", "0o7", "0X5", "5.", "5.0", ".5", "1e3", "1_000", "1,000", "5\n", "\t5", "5\x00",
		"9223372036854775808", "-9223372036854775809", "9223372036854775810", "18446744073709551615", "18446744073709551616", "18446744073709551621", "-18446744073709551616", "99999999999999999999", "-99999999999999999999",
		strings.Repeat("9", 100), "-" + strings.Repeat("9", 100), strings.Repeat("0", 100), strings.Repeat("0", 100) + "5", "\u0665", "\uff15", "\u22125", "\xff", "STALE", "nil", "inf",
	} {
		checkTickRefused(t, tick, api.ErrForm)
	}
}

func TestLeaseOfAnotherFirstWord(t *testing.T) {
	for _, word := range []string{"", "let", "LEASE", "Lease", "leasE", "leas", "leases", "lease\n", "lease:", "lladdr", "5"} {
		checkRefused(t, lines.Lease, word+" "+oneText+" "+macText+" 5", api.ErrForm)
		checkRefused(t, lines.Lease, word+" "+oneText+" "+macText+" -1", api.ErrForm)
		checkRefused(t, lines.Lease, word+" "+oneText+" 01:00:00:00:00:01 5", api.ErrForm)
		checkRefused(t, lines.Lease, word+" x y 1099511627777", api.ErrForm)
	}
}

func TestLeaseOfOtherWords(t *testing.T) {
	whole := "lease " + oneText + " " + macText
	for _, s := range []string{
		"", " ", "  ", "   ", "    ", "lease", "lease -1", "lease x -1", "lease x y z -1", "lease x y -1 z", "lease -1 -1 -1 -1", "x lease y -1", "lease x y -1 -1",
		whole, whole + " 5 5", whole + " 5 x", " " + whole + " 5", whole + " 5 ", whole + "  5", "lease  " + oneText + " " + macText + " 5", "lease " + oneText + "  " + macText + " 5",
		" lease x y -1", "lease x y -1 ", "lease  x y -1", "lease x  y -1", "lease x y  -1", "lease x y ", "lease x -1 ", " lease x -1", "lease\tx\ty\t-1", "lease x y\t-1",
		"lease\t" + oneText + " " + macText + " 5", "\x00", oneText + " lladdr " + macText + " STALE",
	} {
		checkRefused(t, lines.Lease, s, api.ErrForm)
	}
}

func TestLeaseOfEmptyWords(t *testing.T) {
	for s, want := range map[string]api.Errno{
		"lease  x -1":                        api.ErrRange,
		"lease x  -1":                        api.ErrRange,
		"lease   -1":                         api.ErrRange,
		"lease   5":                          api.ErrForm,
		"lease  " + macText + " 5":           api.ErrForm,
		"lease " + oneText + "  5":           api.ErrForm,
		" " + oneText + " " + macText + " 5": api.ErrForm,
	} {
		checkRefused(t, lines.Lease, s, want)
	}
}

func TestLeaseOfManyBytes(t *testing.T) {
	for _, s := range []string{"lease * y -1", "lease x * 1099511627777"} {
		for _, n := range []int{199, 200} {
			checkRefused(t, lines.Lease, filled(t, s, "x", n), api.ErrRange)
		}
		for _, n := range []int{201, 202, 255, 256, 400, 456, 65736, 1 << 20} {
			checkRefused(t, lines.Lease, filled(t, s, "x", n), api.ErrForm)
		}
	}
	checkRefused(t, lines.Lease, filled(t, "lease * y -10", "\u00e4", 200), api.ErrRange)
	checkRefused(t, lines.Lease, filled(t, "lease * y -1", "\u00e4", 201), api.ErrForm)
	checkRefused(t, lines.Lease, strings.Repeat(" ", 1<<16), api.ErrForm)
}

func TestLeaseOfAllWordsAgainstModel(t *testing.T) {
	for _, first := range []string{"lease", "Lease", "let", ""} {
		for _, where := range someAddrs {
			for _, who := range someMacs {
				for _, tick := range someTicks {
					checkModel(t, lines.Lease, modelLease, first+" "+where+" "+who+" "+tick)
				}
			}
		}
	}
}

func TestLeaseOfChangedLinesAgainstModel(t *testing.T) {
	for _, tick := range []string{"0", "5", "-1", "1099511627776", "9223372036854775807", "-9223372036854775808"} {
		for _, s := range changed("lease 10.0.200.1 02:aB:00:00:00:01 " + tick) {
			checkModel(t, lines.Lease, modelLease, s)
		}
	}
}

// Words of all kinds, as many as there happen to be, with spaces too many or too few.
func TestRandomLinesAgainstModel(t *testing.T) {
	r := rand.New(rand.NewSource(8))
	words := []string{"lease", "lladdr", oneText, macText, " ", "\t", "", "x"}
	for _, more := range [][]string{someAddrs, someMacs, someStates, someTicks} {
		words = append(words, more...)
	}
	for range 100000 {
		var parts []string
		for range r.Intn(7) {
			parts = append(parts, words[r.Intn(len(words))])
		}
		s := strings.Join(parts, " ")
		checkModel(t, lines.Neighbour, modelNeighbour, s)
		checkModel(t, lines.Lease, modelLease, s)
	}
	for range 20000 {
		b := make([]byte, r.Intn(220))
		r.Read(b)
		checkModel(t, lines.Neighbour, modelNeighbour, string(b))
		checkModel(t, lines.Lease, modelLease, string(b))
	}
}
