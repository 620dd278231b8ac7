package cases_test

import (
	"math"
	"slices"
	"testing"

	"terrier/api"
	"terrier/cases"
)

// move is one of the four calls that change an open case, by the words of the promise: from which stages, to which one.
type move struct {
	name string
	call func(cs []api.Case, a api.Addr, now int) ([]api.Case, api.Errno)
	from []api.Stage
	to   api.Stage
}

var moves = []move{
	{"Approve", cases.Approve, []api.Stage{api.Raised}, api.Approved},
	{"Reject", cases.Reject, []api.Stage{api.Raised}, api.Rejected},
	{"Done", cases.Done, []api.Stage{api.Approved}, api.Done},
	{"Cancel", cases.Cancel, []api.Stage{api.Raised, api.Approved}, api.Cancelled},
}

func (m move) check(t *testing.T, cs []api.Case, a api.Addr, now int, want []api.Case, wantErr api.Errno) {
	t.Helper()
	call := func(cs []api.Case) ([]api.Case, api.Errno) { return m.call(cs, a, now) }
	checkCall(t, m.name, cs, call, want, wantErr)
}

// P16.3

// The four calls, of a case that is raised and of one that is approved, written out.
func TestEachMove(t *testing.T) {
	raised, approved := list(open(5, 3, api.Raised)), list(open(5, 3, api.Approved))
	approve, reject, done, cancel := moves[0], moves[1], moves[2], moves[3]
	approve.check(t, raised, 5, 9, approved, 0)
	approve.check(t, approved, 5, 9, nil, api.ErrState)
	reject.check(t, raised, 5, 9, list(over(5, 3, 9, api.Rejected)), 0)
	reject.check(t, approved, 5, 9, nil, api.ErrState)
	done.check(t, raised, 5, 9, nil, api.ErrState)
	done.check(t, approved, 5, 9, list(over(5, 3, 9, api.Done)), 0)
	cancel.check(t, raised, 5, 9, list(over(5, 3, 9, api.Cancelled)), 0)
	cancel.check(t, approved, 5, 9, list(over(5, 3, 9, api.Cancelled)), 0)
}

// becomes asks for what a call makes of the case at a place, which goes on.
func (m move) becomes(t *testing.T, cs []api.Case, i, now, tick int) {
	t.Helper()
	c := cs[i]
	if !slices.Contains(m.from, c.Stage) {
		m.check(t, cs, c.Addr, now, nil, api.ErrState)
		return
	}
	c.Stage = m.to
	if m.to != api.Approved {
		c.Ended = tick
	}
	want := at(cs, i, c)
	m.check(t, cs, c.Addr, now, want, 0)
	if tick >= c.Raised && cases.Right(cs) {
		checkRight(t, want, true)
	}
}

func TestMovesOfEachCase(t *testing.T) {
	for n := 1; n <= 18; n++ {
		for _, in := range [][]api.Stage{openStages, stages, {api.Raised}, {api.Approved}} {
			cs := apart(n, in...)
			for i, c := range cs {
				for _, m := range moves {
					if isOpen(c.Stage) {
						m.becomes(t, cs, i, 100, 100)
					} else {
						m.check(t, cs, c.Addr, 100, nil, api.ErrUnknown)
					}
				}
			}
		}
	}
	for _, a := range []api.Addr{0, 1, 0x80000000, lastAddr} {
		for _, s := range openStages {
			for _, m := range moves {
				m.becomes(t, list(open(3, 1, api.Raised), open(a, 2, s), open(7, 1, api.Approved)), 1, 9, 9)
			}
		}
	}
}

func TestMovesOfAnAddressWithoutAnOpenCase(t *testing.T) {
	for _, m := range moves {
		for _, now := range []int{-1, 0, 50, lastTick, math.MaxInt} {
			m.check(t, nil, 0, now, nil, api.ErrUnknown)
			m.check(t, []api.Case{}, 5, now, nil, api.ErrUnknown)
			for _, n := range []int{1, 2, 3, 15, 16, 17} {
				for _, in := range [][]api.Stage{openStages, closedStages, stages} {
					cs := apart(n, in...)
					for _, a := range []api.Addr{0, 1, first - 1, lastAddr} {
						m.check(t, cs, a, now, nil, api.ErrUnknown)
					}
					m.check(t, cs[:n-1], spread(n-1), now, nil, api.ErrUnknown)
				}
			}
		}
		for bit := range 32 {
			for _, s := range openStages {
				m.check(t, list(open(first, 2, s)), first^1<<bit, 9, nil, api.ErrUnknown)
			}
		}
		// Closed ones only, of each stage.
		for _, s := range slices.Concat(closedStages, oddStages) {
			for _, now := range []int{2, 5, 6, 900} {
				m.check(t, list(over(first, 2, 5, s)), first, now, nil, api.ErrUnknown)
				m.check(t, list(over(first, 2, 5, s), over(first, 2, 5, s)), first, now, nil, api.ErrUnknown)
				m.check(t, list(open(8, 2, api.Raised), over(first, 2, 5, s), open(9, 2, api.Approved)), first, now, nil, api.ErrUnknown)
			}
		}
	}
}

// Closed cases of the address before and behind the open one stay as they are.
func TestMovesAmongClosedCases(t *testing.T) {
	for _, n := range []int{2, 3, 15, 16} {
		var same []api.Case
		for j := range n {
			same = append(same, over(first, j, 2*j, closedStages[j%4]))
		}
		for i := range n {
			for _, s := range openStages {
				for _, m := range moves {
					m.becomes(t, at(same, i, open(first, 40, s)), i, 50, 50)
				}
			}
		}
	}
	// So do those that are the same but for their stage.
	for _, s := range openStages {
		for _, m := range moves {
			for i := range 9 {
				var cs []api.Case
				for j := range 9 {
					cs = append(cs, over(first, 0, 0, closedStages[j%4]))
				}
				m.becomes(t, at(cs, i, open(first, 0, s)), i, 0, 0)
			}
		}
	}
}

// What becomes of Raised and of Ended, by the tick.
func TestMovesByTick(t *testing.T) {
	for _, m := range moves {
		for _, s := range openStages {
			for _, raised := range goodTicks {
				cs := list(over(9, 0, 4, api.Done), open(5, raised, s), open(6, 1, api.Raised))
				for _, now := range goodTicks { // before it was raised, too
					m.becomes(t, cs, 1, now, now)
				}
				for _, now := range []int{raised, raised + 1, min(raised+2, lastTick)} {
					m.becomes(t, cs, 1, now, min(now, lastTick))
				}
				for _, now := range lowTicks {
					m.becomes(t, cs, 1, now, 0)
				}
				for _, now := range highTicks {
					m.becomes(t, cs, 1, now, lastTick)
				}
			}
		}
	}
}

// One after the other: what a call made is what the next one is asked of.
func TestMovesInTurn(t *testing.T) {
	for _, m := range moves {
		for _, then := range moves {
			for _, s := range openStages {
				cs := list(open(8, 1, api.Approved), open(5, 3, s), open(9, 2, api.Raised))
				got, err := m.call(cs, 5, 7)
				switch {
				case err != 0:
					continue
				case isOpen(got[1].Stage):
					then.becomes(t, got, 1, 9, 9)
				default:
					then.check(t, got, 5, 9, nil, api.ErrUnknown)
				}
				then.becomes(t, got, 0, 9, 9)
				then.becomes(t, got, 2, 9, 9)
			}
		}
	}
}

// In a list that is not valid: of several open cases the first one counts, and its numbers are kept as they are.
func TestMovesWithListsThatAreNotValid(t *testing.T) {
	for _, m := range moves {
		for _, s := range openStages {
			for _, u := range openStages {
				cs := list(over(5, 1, 2, api.Expired), open(5, 3, s), open(8, 1, api.Raised), open(5, 4, u), open(5, 5, s))
				m.becomes(t, cs, 1, 9, 9)
			}
			for _, n := range []int{math.MinInt, -1, lastTick + 1, math.MaxInt} {
				m.becomes(t, list(over(5, n, 0, s)), 0, 9, 9)
				// Approved, it keeps the Ended that no open case may have.
				m.becomes(t, list(over(5, 3, n, s)), 0, 9, 9)
				m.becomes(t, list(over(5, n, n, s), over(6, n, n, 6)), 0, 9, 9)
			}
			m.becomes(t, list(over(6, -9, -9, -1), over(5, 3, 5, s), over(5, 3, 5, s)), 1, 9, 9)
		}
		cs := apart(100, openStages...)
		for _, i := range []int{0, 15, 16, 50, 99} {
			m.becomes(t, cs, i, 200, 200)
		}
	}
}
