package command_test

import (
	"errors"
	"fmt"
	"math"
	"testing"

	"terrier/api"
	"terrier/command"
)

// P17.3

// layer wraps an error once more.
type layer struct{ inner error }

func (l *layer) Error() string { return "layer: " + l.inner.Error() }

func (l *layer) Unwrap() error { return l.inner }

// nested wraps an error n times, in two ways by turns.
func nested(err error, n int) error {
	for i := range n {
		if i%2 == 0 {
			err = &layer{err}
		} else {
			err = fmt.Errorf("once more: %w", err)
		}
	}
	return err
}

var errPlain = errors.New("plain")

func checkWhere(t *testing.T, err error, at int, n api.Errno, ok bool) {
	t.Helper()
	for range 2 {
		if gotAt, gotN, gotOK := command.Where(err); gotAt != at || gotN != n || gotOK != ok {
			t.Errorf("Where(%v) = %d, %d, %v; want %d, %d, %v", err, gotAt, gotN, gotOK, at, n, ok)
		}
	}
}

func TestWhereOfNothing(t *testing.T) {
	checkWhere(t, nil, 0, 0, false)
	for depth := range 6 {
		checkWhere(t, nested(errPlain, depth), 0, 0, false)
	}
	checkWhere(t, errors.Join(errPlain, errPlain), 0, 0, false)
	checkWhere(t, errors.Join(), 0, 0, false)
}

func TestWhereOfAnErrno(t *testing.T) {
	for n := api.Errno(-2); n <= api.ErrArgument+2; n++ {
		for depth := range 6 {
			checkWhere(t, nested(n, depth), 0, n, false)
		}
	}
	checkWhere(t, api.Errno(math.MaxInt), 0, math.MaxInt, false)
	checkWhere(t, api.Errno(math.MinInt), 0, math.MinInt, false)
}

func TestWhereOfAFault(t *testing.T) {
	for _, at := range []int{0, 1, 2, 3, 4, 200, -1, math.MaxInt, math.MinInt} {
		for n := api.Errno(0); n <= api.ErrArgument; n++ {
			for around := range 5 {
				for inside := range 5 {
					checkWhere(t, nested(&api.Fault{At: at, Err: nested(n, inside)}, around), at, n, true)
				}
			}
		}
	}
}

// A Fault may tell a place without a number.
func TestWhereOfAFaultOfNoErrno(t *testing.T) {
	for _, at := range []int{0, 5, -5} {
		for around := range 5 {
			checkWhere(t, nested(&api.Fault{At: at, Err: errPlain}, around), at, 0, true)
			checkWhere(t, nested(&api.Fault{At: at, Err: nested(errPlain, around)}, 1), at, 0, true)
		}
	}
	if at, n, ok := command.Where(&api.Fault{At: 5}); at != 5 || n != 0 || !ok {
		t.Error(at, n, ok)
	}
	if at, n, ok := command.Where(&api.Fault{}); at != 0 || n != 0 || !ok {
		t.Error(at, n, ok)
	}
}

// The outer one of two Faults is found, and of what stands side by side the first one.
func TestWhereOfSeveral(t *testing.T) {
	for around := range 4 {
		for between := range 4 {
			inner := &api.Fault{At: 4, Err: nested(api.ErrSum, around)}
			checkWhere(t, nested(&api.Fault{At: 9, Err: nested(inner, between)}, around), 9, api.ErrSum, true)
			checkWhere(t, nested(&api.Fault{At: 0, Err: &api.Fault{At: 7, Err: nested(inner, between)}}, around), 0, api.ErrSum, true)
		}
	}
	inner := &api.Fault{At: 4, Err: api.ErrSum}
	checkWhere(t, &layer{errors.Join(errPlain, inner, &api.Fault{At: 5, Err: api.ErrForm})}, 4, api.ErrSum, true)
	checkWhere(t, errors.Join(api.ErrFull, inner), 4, api.ErrFull, true)
	checkWhere(t, errors.Join(&api.Fault{At: 3, Err: errPlain}, api.ErrFull), 3, api.ErrFull, true)
	checkWhere(t, errors.Join(api.ErrFull, api.ErrForm), 0, api.ErrFull, false)
}

// asFault is an error that tells of itself, when it is asked, what it is.
type asFault struct {
	fault *api.Fault
	says  bool
}

func (a asFault) Error() string { return "as a Fault" }

func (a asFault) As(target any) bool {
	switch x := target.(type) {
	case **api.Fault:
		*x = a.fault
		return a.says
	case *api.Errno:
		*x = api.ErrDisk
		return a.says
	}
	return false
}

func TestWhereAsksTheErrorItself(t *testing.T) {
	checkWhere(t, asFault{fault: &api.Fault{At: 6}, says: true}, 6, api.ErrDisk, true)
	checkWhere(t, nested(asFault{fault: &api.Fault{At: 6}, says: true}, 3), 6, api.ErrDisk, true)
	checkWhere(t, asFault{fault: &api.Fault{At: 6}}, 0, 0, false)
}

// A struct is no *api.Fault, even if it looks like one; nor is a number an api.Errno.
type likeFault struct{ layer }

type likeErrno int

func (l likeErrno) Error() string { return "like an Errno" }

func TestWhereOfWhatLooksLikeOne(t *testing.T) {
	checkWhere(t, &likeFault{layer{api.ErrDisk}}, 0, api.ErrDisk, false)
	checkWhere(t, likeErrno(api.ErrForm), 0, 0, false)
	checkWhere(t, &api.Fault{At: 8, Err: likeErrno(api.ErrForm)}, 8, 0, true)
}

func TestWhereOfDeepErrors(t *testing.T) {
	const deep = 1 << 16
	err := error(api.ErrRange)
	for range deep {
		err = &layer{err}
	}
	for _, c := range []struct {
		err error
		at  int
		ok  bool
	}{{err, 0, false}, {&api.Fault{At: 3, Err: err}, 3, true}} {
		if at, n, ok := command.Where(c.err); at != c.at || n != api.ErrRange || ok != c.ok {
			t.Error(at, n, ok)
		}
	}
}

func TestWhereOfAnErrorOfParse(t *testing.T) {
	for depth := range 6 {
		_, err := command.Parse("hold 10.0.0.1 Ann")
		checkWhere(t, nested(err, depth), 2, api.ErrRange, true)
		checkWhere(t, &api.Fault{At: 17, Err: nested(err, depth)}, 17, api.ErrRange, true)
		_, err = command.Parse(filled("hold ", "x", 201))
		checkWhere(t, nested(err, depth), 0, api.ErrRange, false)
		checkWhere(t, &api.Fault{At: 17, Err: nested(err, depth)}, 17, api.ErrRange, true)
	}
}

func TestWhereDoesNotChangeErrors(t *testing.T) {
	inner := &layer{api.ErrForm}
	fault := &api.Fault{At: 6, Err: inner}
	err := nested(fault, 3)
	before := err.Error()
	checkWhere(t, err, 6, api.ErrForm, true)
	if err.Error() != before || fault.At != 6 || fault.Err != error(inner) || inner.inner != error(api.ErrForm) {
		t.Error(err)
	}
}
