package lines_test

import (
	"errors"
	"fmt"
	"math"
	"math/rand"
	"slices"
	"strconv"
	"strings"
	"testing"

	"terrier/api"
	"terrier/lines"
)

// layer wraps an error once more.
type layer struct{ inner error }

func (l *layer) Error() string { return "layer: " + l.inner.Error() }

func (l *layer) Unwrap() error { return l.inner }

// nested wraps an error n times, in two ways by turns.
func nested(err error, n int) error {
	for i := range n {
		if i%2 == 0 {
			err = &layer{err}
		} else {
			err = fmt.Errorf("once more: %w", err)
		}
	}
	return err
}

func neighbour(n int, state string) string {
	return fmt.Sprintf("10.0.0.%d lladdr 02:00:00:00:00:%02x %s", n, n, state)
}

func neighbourRow(n int) lines.Row {
	return lines.Row{Addr: 0x0a000000 + api.Addr(n), Mac: api.Mac{2, 0, 0, 0, 0, byte(n)}}
}

func checkRows(t *testing.T, ls []string, read reader, want ...lines.Row) {
	t.Helper()
	rows, err := lines.Table(ls, read)
	if err != nil || !slices.Equal(rows, want) {
		t.Errorf("%q: %v, %v; want %v, nil", ls, rows, err, want)
	}
}

// checkFault looks for the error that read returns for the line at a place.
func checkFault(t *testing.T, ls []string, read reader, at int) {
	t.Helper()
	_, cause := read(ls[at])
	rows, err := lines.Table(ls, read)
	fault, ok := err.(*api.Fault)
	if len(rows) != 0 || !ok || fault == nil {
		t.Errorf("%q: %v, %v; want no Rows and a Fault", ls, rows, err)
		return
	}
	if *fault != (api.Fault{At: at, Err: cause}) {
		t.Errorf("%q: %v at %d, want %v at %d", ls, fault.Err, fault.At, cause, at)
	}
	if place, ok := lines.Place(err); place != at || !ok {
		t.Errorf("%q: Place is %d, %v, want %d, true", ls, place, ok, at)
	}
	if n := lines.Number(err); n != lines.Number(cause) || n != 0 && !errors.Is(err, n) {
		t.Errorf("%q: Number is %d, want that of %v", ls, n, cause)
	}
}

// P8.4: Table

func TestTableWithoutLines(t *testing.T) {
	never := func(s string) (lines.Row, error) {
		t.Errorf("%q was read", s)
		return lines.Row{}, nil
	}
	checkRows(t, nil, never)
	checkRows(t, []string{}, never)
	checkRows(t, []string{"x", "y"}[:0], never)
}

func TestTableOfNeighbours(t *testing.T) {
	checkRows(t, []string{neighbour(1, "STALE")}, lines.Neighbour, neighbourRow(1))
	checkRows(t, []string{neighbour(3, "STALE"), neighbour(1, "DELAY"), neighbour(2, "REACHABLE")}, lines.Neighbour, neighbourRow(3), neighbourRow(1), neighbourRow(2))
	checkRows(t, []string{neighbour(1, "STALE"), neighbour(1, "STALE")}, lines.Neighbour, neighbourRow(1), neighbourRow(1))
}

func TestTableOfLeases(t *testing.T) {
	checkRows(t, []string{"lease 10.0.0.2 " + macText + " 7", "lease 10.0.0.1 " + macText + " 0"}, lines.Lease,
		lines.Row{Addr: one + 1, Mac: station, Until: 7}, lines.Row{Addr: one, Mac: station})
	checkFault(t, []string{"lease 10.0.0.2 " + macText + " 7", "lease 10.0.0.1 " + macText + " -1"}, lines.Lease, 1)
	checkFault(t, []string{neighbour(1, "FAILED")}, lines.Lease, 0)
}

func TestTableSkipsLines(t *testing.T) {
	a, b := neighbour(1, "STALE"), neighbour(2, "DELAY")
	failed, incomplete := "x lladdr y FAILED", neighbour(3, "INCOMPLETE")
	for _, ls := range [][]string{
		{failed, a, b}, {a, failed, b}, {a, b, failed}, {incomplete, a, b}, {a, incomplete, b}, {a, b, incomplete},
		{failed, incomplete, a, incomplete, failed, failed, b, failed, incomplete},
	} {
		checkRows(t, ls, lines.Neighbour, neighbourRow(1), neighbourRow(2))
	}
	checkRows(t, []string{failed}, lines.Neighbour)
	checkRows(t, []string{incomplete, failed, failed}, lines.Neighbour)
}

// A place counts the lines that are skipped too.
func TestTableStopsAtTheFirstLineThatIsWrong(t *testing.T) {
	good, failed, form, scope := neighbour(1, "STALE"), neighbour(2, "FAILED"), "bad", oneText+" lladdr 01:00:00:00:00:01 STALE"
	checkFault(t, []string{form}, lines.Neighbour, 0)
	checkFault(t, []string{""}, lines.Neighbour, 0)
	checkFault(t, []string{form, good, failed}, lines.Neighbour, 0)
	checkFault(t, []string{good, form, good}, lines.Neighbour, 1)
	checkFault(t, []string{failed, form, good}, lines.Neighbour, 1)
	checkFault(t, []string{failed, good, failed, scope}, lines.Neighbour, 3)
	checkFault(t, []string{good, form, scope}, lines.Neighbour, 1)
	checkFault(t, []string{good, scope, form}, lines.Neighbour, 1)
	checkFault(t, []string{failed, scope, failed, form, good}, lines.Neighbour, 1)
	for ls, want := range map[string]api.Errno{form + "," + scope: api.ErrForm, scope + "," + form: api.ErrRange} {
		if _, err := lines.Table(strings.Split(ls, ","), lines.Neighbour); lines.Number(err) != want {
			t.Errorf("%q: %v, want %v", ls, err, want)
		}
	}
}

func TestTableReadsEachLineOnce(t *testing.T) {
	for wrong := -1; wrong < 6; wrong++ {
		ls := []string{"0", "1", "2", "3", "4", "5"}
		var asked []string
		_, err := lines.Table(ls, func(s string) (lines.Row, error) {
			asked = append(asked, s)
			if s == strconv.Itoa(wrong) {
				return lines.Row{}, api.ErrForm
			}
			return lines.Row{}, nil
		})
		want := ls
		if wrong >= 0 {
			want = ls[:wrong+1]
		}
		if !slices.Equal(asked, want) || (err != nil) != (wrong >= 0) {
			t.Errorf("wrong at %d: %q were read, %v", wrong, asked, err)
		}
	}
}

// own is a read of errors of all kinds; it returns a Row with each of them, which is not to be seen.
func own(s string) (lines.Row, error) {
	row := lines.Row{Addr: api.Addr(len(s)), Mac: api.Mac{9}, Until: -len(s)}
	kind, deep, _ := strings.Cut(s, " ")
	depth, _ := strconv.Atoi(deep)
	switch kind {
	case "state":
		return row, nested(api.ErrState, depth)
	case "fault":
		return row, nested(&api.Fault{At: 7, Err: nested(api.ErrState, depth)}, depth)
	case "joined":
		return row, nested(errState, depth)
	case "form":
		return row, nested(errForm, depth)
	case "plain":
		return row, errPlain
	case "place":
		return row, errPlace
	case "zero":
		return lines.Row{}, nil
	}
	return row, nil
}

var (
	errPlain = errors.New("plain")
	errForm  = &layer{api.ErrForm}
	errPlace = &api.Fault{At: 7, Err: api.ErrCrash}
	errState = errors.Join(errPlain, api.ErrForm, api.ErrState)
)

func TestTableSkipsErrStateHoweverItIsWrapped(t *testing.T) {
	row, _ := own("good")
	for _, kind := range []string{"state", "fault", "joined"} {
		for depth := range 6 {
			skipped := kind + " " + strconv.Itoa(depth)
			checkRows(t, []string{skipped}, own)
			checkRows(t, []string{skipped, "good", skipped, skipped, "good", "zero", skipped}, own, row, row, lines.Row{})
			checkFault(t, []string{skipped, "good", skipped, "plain", skipped}, own, 3)
		}
	}
}

func TestTableTellsEveryOtherError(t *testing.T) {
	checkFault(t, []string{"good", "plain"}, own, 1)
	checkFault(t, []string{"good", "zero", "state", "place", "form"}, own, 3)
	checkFault(t, []string{"form"}, own, 0)
	for n := api.Errno(-1); n <= api.ErrArgument+1; n++ {
		if n == api.ErrState || n == 0 {
			continue
		}
		for depth := range 4 {
			err := nested(n, depth)
			checkFault(t, []string{"good", "state", "this", "good"}, func(s string) (lines.Row, error) {
				if s == "this" {
					return neighbourRow(1), err
				}
				return own(s)
			}, 2)
		}
	}
}

func TestTableDoesNotChangeLines(t *testing.T) {
	whole := []string{neighbour(1, "STALE"), neighbour(2, "FAILED"), neighbour(3, "DELAY"), "bad", "beyond", "far beyond"}
	for n := range len(whole) {
		ls := slices.Clone(whole)
		lines.Table(ls[:n], lines.Neighbour)
		if !slices.Equal(ls, whole) {
			t.Errorf("%d lines: %q", n, ls)
		}
	}
}

func TestTableGivesNewRows(t *testing.T) {
	ls := []string{neighbour(1, "STALE"), neighbour(2, "STALE"), neighbour(3, "STALE")}
	first, _ := lines.Table(ls, lines.Neighbour)
	second, _ := lines.Table(ls, lines.Neighbour)
	clear(first)
	_ = append(first[:1], lines.Row{Until: 5})
	if !slices.Equal(second, []lines.Row{neighbourRow(1), neighbourRow(2), neighbourRow(3)}) {
		t.Error(second)
	}
	checkRows(t, ls, lines.Neighbour, second...)
}

func TestTableOfManyLines(t *testing.T) {
	const many = 100000
	var ls []string
	var want []lines.Row
	for i := range many {
		ls = append(ls, neighbour(i%250+1, someStates[i%5]))
		if i%5 < 3 {
			want = append(want, neighbourRow(i%250+1))
		}
	}
	rows, err := lines.Table(ls, lines.Neighbour)
	if err != nil || !slices.Equal(rows, want) {
		t.Error(len(rows), err)
	}
	checkPlaceOf(t, append(ls, "bad"), many)
}

func checkPlaceOf(t *testing.T, ls []string, want int) {
	t.Helper()
	rows, err := lines.Table(ls, lines.Neighbour)
	if at, ok := lines.Place(err); len(rows) != 0 || at != want || !ok || lines.Number(err) != api.ErrForm {
		t.Error(len(rows), at, ok)
	}
}

func TestRandomTablesAgainstModel(t *testing.T) {
	r := rand.New(rand.NewSource(88))
	for range 5000 {
		var ls []string
		var want []lines.Row
		wrong := -1
		for i := range r.Intn(12) {
			n := 1 + r.Intn(200)
			s := neighbour(n, someStates[r.Intn(5)])
			if r.Intn(12) == 0 {
				s = neighbour(n, someStates[r.Intn(len(someStates))])
			}
			ls = append(ls, s)
			row, e := modelNeighbour(s)
			switch {
			case e == 0:
				want = append(want, row)
			case e != api.ErrState && wrong < 0:
				wrong = i
			}
		}
		if wrong < 0 {
			checkRows(t, ls, lines.Neighbour, want...)
		} else {
			checkFault(t, ls, lines.Neighbour, wrong)
		}
	}
}

// P8.4: Place and Number

func checkTold(t *testing.T, err error, at int, ok bool, number api.Errno) {
	t.Helper()
	if gotAt, gotOK := lines.Place(err); gotAt != at || gotOK != ok {
		t.Errorf("Place of %v is %d, %v, want %d, %v", err, gotAt, gotOK, at, ok)
	}
	if got := lines.Number(err); got != number {
		t.Errorf("Number of %v is %d, want %d", err, got, number)
	}
}

func TestPlaceAndNumberOfNothing(t *testing.T) {
	checkTold(t, nil, 0, false, 0)
	for depth := range 5 {
		checkTold(t, nested(errPlain, depth), 0, false, 0)
	}
	checkTold(t, errors.Join(errPlain, errPlain), 0, false, 0)
}

func TestNumberAlone(t *testing.T) {
	for n := api.Errno(-2); n <= api.ErrArgument+2; n++ {
		for depth := range 5 {
			checkTold(t, nested(n, depth), 0, false, n)
		}
	}
}

func TestPlaceAlone(t *testing.T) {
	for _, at := range []int{0, 1, 7, 200, -1, math.MaxInt, math.MinInt} {
		for depth := range 5 {
			checkTold(t, nested(&api.Fault{At: at, Err: errPlain}, depth), at, true, 0)
			checkTold(t, nested(&api.Fault{At: at, Err: nested(errPlain, depth)}, 1), at, true, 0)
		}
	}
	fault := &api.Fault{At: 5}
	if at, ok := lines.Place(fault); at != 5 || !ok || lines.Number(fault) != 0 {
		t.Error(at, ok)
	}
}

func TestPlaceAndNumber(t *testing.T) {
	for n := api.ErrForm; n <= api.ErrArgument; n++ {
		for around := range 5 {
			for inside := range 5 {
				checkTold(t, nested(&api.Fault{At: 3 * inside, Err: nested(n, inside)}, around), 3*inside, true, n)
			}
		}
	}
}

// Where there are several, the outer one is found, and of those side by side the first one.
func TestPlaceAndNumberOfSeveral(t *testing.T) {
	inner := &api.Fault{At: 4, Err: api.ErrSum}
	checkTold(t, nested(&api.Fault{At: 9, Err: nested(inner, 3)}, 2), 9, true, api.ErrSum)
	checkTold(t, &layer{errors.Join(errPlain, inner, &api.Fault{At: 5, Err: api.ErrForm})}, 4, true, api.ErrSum)
	checkTold(t, errors.Join(api.ErrFull, inner), 4, true, api.ErrFull)
}

// A struct is no *api.Fault, even if it looks like one.
type likeFault struct{ layer }

func TestPlaceOfWhatLooksLikeAFault(t *testing.T) {
	checkTold(t, &likeFault{layer{api.ErrDisk}}, 0, false, api.ErrDisk)
}

func TestPlaceAndNumberOfATableOfTables(t *testing.T) {
	readTable := func(s string) (lines.Row, error) {
		rows, err := lines.Table(strings.Split(s, ","), lines.Neighbour)
		if err != nil {
			return lines.Row{}, err
		}
		return rows[0], nil
	}
	good := neighbour(1, "STALE")
	_, err := lines.Table([]string{good, good + "," + good, good + ",bad"}, readTable)
	checkTold(t, err, 2, true, api.ErrForm)
	if at, ok := lines.Place(errors.Unwrap(err)); at != 1 || !ok {
		t.Error(at, ok)
	}
}

func TestPlaceAndNumberDoNotChangeErrors(t *testing.T) {
	fault := &api.Fault{At: 6, Err: errForm}
	err := nested(fault, 3)
	before := err.Error()
	checkTold(t, err, 6, true, api.ErrForm)
	checkTold(t, err, 6, true, api.ErrForm)
	if err.Error() != before || fault.At != 6 || fault.Err != error(errForm) || errForm.inner != error(api.ErrForm) {
		t.Error(err)
	}
}

func TestExample(t *testing.T) {
	line := "10.0.0.1 lladdr 02:00:00:00:00:01 FAILED"
	checkRefused(t, lines.Neighbour, line, api.ErrState)
	checkRows(t, []string{line}, lines.Neighbour)
}
