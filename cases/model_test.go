package cases_test

import (
	"cmp"
	"math"
	"math/rand"
	"slices"
	"testing"

	"terrier/api"
	"terrier/cases"
	"terrier/config"
)

// records is a model of a list: each address has its cases, and each case the number that says how late it came in.
type records struct {
	next int
	of   map[api.Addr][]record
}

type record struct {
	number int
	api.Case
}

func newRecords() *records { return &records{of: map[api.Addr][]record{}} }

func recordsOf(cs []api.Case) *records {
	r := newRecords()
	for _, c := range cs {
		r.add(c)
	}
	return r
}

func (r *records) add(c api.Case) {
	r.of[c.Addr] = append(r.of[c.Addr], record{r.next, c})
	r.next++
}

func (r *records) all() []record {
	var rows []record
	for _, of := range r.of {
		rows = append(rows, of...)
	}
	slices.SortFunc(rows, func(x, y record) int { return x.number - y.number })
	return rows
}

func (r *records) list() []api.Case {
	var cs []api.Case
	for _, row := range r.all() {
		cs = append(cs, row.Case)
	}
	return cs
}

// current is the case of an address that goes on; nil: there is none.
func (r *records) current(a api.Addr) *api.Case {
	for i := range r.of[a] {
		if isOpen(r.of[a][i].Stage) {
			return &r.of[a][i].Case
		}
	}
	return nil
}

// modelQuiet is by the words: rejected, not later than now, and less than Quiet ticks ago.
func modelQuiet(c api.Case, quiet, now int) bool {
	return c.Stage == api.Rejected && c.Ended <= now && now < c.Ended+quiet
}

func (r *records) raise(quiet int, a api.Addr, now int) api.Errno {
	if r.current(a) != nil {
		return api.ErrTaken
	}
	if slices.ContainsFunc(r.of[a], func(x record) bool { return modelQuiet(x.Case, quiet, now) }) {
		return api.ErrState
	}
	if rows := r.all(); len(rows) == maxCases {
		rows = slices.DeleteFunc(rows, func(x record) bool { return isOpen(x.Stage) || modelQuiet(x.Case, quiet, now) })
		if len(rows) == 0 {
			return api.ErrFull
		}
		gone := slices.MinFunc(rows, func(x, y record) int {
			return cmp.Or(x.Ended-y.Ended, x.number-y.number)
		})
		r.of[gone.Addr] = slices.DeleteFunc(r.of[gone.Addr], func(x record) bool { return x.number == gone.number })
	}
	r.add(api.Case{Addr: a, Raised: now})
	return 0
}

func (r *records) move(m move, a api.Addr, now int) api.Errno {
	c := r.current(a)
	switch {
	case c == nil:
		return api.ErrUnknown
	case m.to != api.Cancelled && c.Stage != m.from[0]:
		return api.ErrState
	}
	c.Stage = m.to
	if m.to != api.Approved {
		c.Ended = now
	}
	return 0
}

func (r *records) tick(lasts, now int) {
	for a := range r.of {
		if c := r.current(a); c != nil && c.Stage == api.Raised && now >= c.Raised+lasts {
			c.Stage, c.Ended = api.Expired, now
		}
	}
}

// rightByWords asks each condition of a valid list by itself.
func rightByWords(cs []api.Case) bool {
	goOn := map[api.Addr]int{}
	wrong := 0
	for _, c := range cs {
		if !slices.Contains(stages, c.Stage) {
			wrong++
		}
		if c.Raised < 0 || c.Raised > lastTick || c.Ended < 0 || c.Ended > lastTick {
			wrong++
		}
		switch {
		case c.Stage == api.Raised || c.Stage == api.Approved:
			goOn[c.Addr]++
			if c.Ended != 0 {
				wrong++
			}
		case c.Ended < c.Raised:
			wrong++
		}
	}
	for _, n := range goOn {
		wrong += n - 1
	}
	return wrong == 0 && len(cs) <= maxCases
}

// smallCases are all the cases of a few addresses and ticks, right ones and wrong ones.
func smallCases(as []api.Addr, from, to int) []api.Case {
	var cs []api.Case
	for _, a := range as {
		for raised := from; raised <= to; raised++ {
			for ended := from; ended <= to; ended++ {
				for s := api.Stage(-1); s <= 6; s++ {
					cs = append(cs, over(a, raised, ended, s))
				}
			}
		}
	}
	return cs
}

// Every list of one or two cases of a few ticks, and of each stage.
func TestEverySmallList(t *testing.T) {
	all := smallCases([]api.Addr{5, 6}, -1, 2)
	for _, c := range all {
		if got, want := cases.Right(list(c)), rightByWords(list(c)); got != want {
			t.Fatalf("Right(%v) = %v", c, got)
		}
		for _, d := range all {
			cs := list(c, d)
			if got, want := cases.Right(cs), rightByWords(cs); got != want {
				t.Fatalf("Right(%v) = %v", cs, got)
			}
			want := slices.IndexFunc(cs, func(c api.Case) bool { return c.Addr == 5 && (c.Stage == api.Raised || c.Stage == api.Approved) })
			if got := cases.Find(cs, 5); got != want {
				t.Fatalf("Find(%v) = %d, want %d", cs, got, want)
			}
		}
	}
}

// Every valid list of two cases at few ticks, and all that may be asked of it.
func TestEveryCallOfASmallList(t *testing.T) {
	all := slices.DeleteFunc(smallCases([]api.Addr{5, 6}, 0, 3), func(c api.Case) bool { return !rightByWords(list(c)) })
	for _, c := range all {
		for _, d := range all {
			cs := list(c, d)
			if !rightByWords(cs) {
				continue
			}
			for now := range 5 {
				checkModels(t, cs, 5, now)
			}
		}
	}
}

// checkModels makes every call by the list, and by the model of it.
func checkModels(t *testing.T, cs []api.Case, a api.Addr, now int) {
	t.Helper()
	for n := range 4 {
		r := recordsOf(cs)
		wantErr := r.raise(n, a, now)
		got, err := cases.Raise(silent(n), cs, a, now)
		checkAnswer(t, "Raise", cs, got, err, r, wantErr)
		r = recordsOf(cs)
		r.tick(n+1, now)
		checkAnswer(t, "Tick", cs, cases.Tick(lasting(n+1), cs, now), 0, r, 0)
	}
	for _, m := range moves {
		r := recordsOf(cs)
		wantErr := r.move(m, a, now)
		got, err := m.call(cs, a, now)
		checkAnswer(t, m.name, cs, got, err, r, wantErr)
	}
}

func checkAnswer(t *testing.T, name string, cs, got []api.Case, err api.Errno, r *records, wantErr api.Errno) {
	t.Helper()
	want := r.list()
	if wantErr != 0 {
		want = nil
	}
	if err != wantErr || !slices.Equal(got, want) {
		t.Fatalf("%s of %v is %v, %v, want %v, %v", name, cs, got, err, want, wantErr)
	}
}

// Full lists of few addresses and few ticks, at random.
func TestRandomFullLists(t *testing.T) {
	r := rand.New(rand.NewSource(162))
	for range 20000 {
		var cs []api.Case
		base := r.Intn(2) * (lastTick - 30)
		span := 1 + r.Intn(25)
		for i := range maxCases - r.Intn(3)/2 {
			a := api.Addr(r.Intn(24))
			s := stages[r.Intn(6)]
			if isOpen(s) {
				a = api.Addr(i + 6)
			}
			c := open(a, base+r.Intn(span), s)
			if !isOpen(s) {
				c.Ended = c.Raised + r.Intn(span)/4
			}
			cs = append(cs, c)
		}
		cs = slices.DeleteFunc(cs, func(c api.Case) bool { return c.Stage == api.Approved && r.Intn(9) == 0 })
		if got, want := cases.Right(cs), rightByWords(cs); got != want {
			t.Fatalf("Right(%v) = %v", cs, got)
		}
		if !rightByWords(cs) {
			t.Fatalf("the test made the list %v", cs)
		}
		now, quiet := base+r.Intn(30), r.Intn(20)
		a := api.Addr(r.Intn(30))
		m := recordsOf(cs)
		wantErr := m.raise(quiet, a, now)
		got, err := cases.Raise(silent(quiet), cs, a, now)
		checkAnswer(t, "Raise", cs, got, err, m, wantErr)
	}
}

// one is a call of a random run: what it made of the list, and what the model says of it.
func (r *records) one(t *testing.T, rnd *rand.Rand, f api.Config, cs []api.Case, now int) ([]api.Case, api.Errno) {
	t.Helper()
	a := spread(rnd.Intn(24))
	if rnd.Intn(2) == 0 {
		m := moves[rnd.Intn(len(moves))]
		err := r.move(m, a, now)
		if err != 0 {
			m.check(t, cs, a, now, nil, err)
			return cs, err
		}
		m.check(t, cs, a, now, r.list(), 0)
		cs, err = m.call(cs, a, now)
		return cs, err
	}
	err := r.raise(f.Quiet, a, now)
	if err != 0 {
		checkRaise(t, f.Quiet, cs, a, now, nil, err)
		return cs, err
	}
	checkRaise(t, f.Quiet, cs, a, now, r.list(), 0)
	cs, err = cases.Raise(f, cs, a, now)
	return cs, err
}

// Tick by tick: cases are raised, what becomes of them is said, and the old ones are over.
func TestRandomTicks(t *testing.T) {
	rnd := rand.New(rand.NewSource(16))
	count := [api.ErrArgument + 1]int{}
	for range 60 {
		r := newRecords()
		f := config.Fit(api.Config{Open: rnd.Intn(20), Quiet: rnd.Intn(40)})
		var cs []api.Case
		for now := range 300 {
			for range rnd.Intn(8) {
				var err api.Errno
				cs, err = r.one(t, rnd, f, cs, now)
				count[err]++
			}
			r.tick(f.Open, now)
			checkTick(t, f.Open, cs, now, r.list())
			cs = cases.Tick(f, cs, now)
			if !rightByWords(cs) || !cases.Right(cs) {
				t.Fatalf("the list is %v", cs)
			}
			for i := range 24 {
				want := slices.IndexFunc(cs, func(c api.Case) bool { return c.Addr == spread(i) && isOpen(c.Stage) })
				checkFind(t, cs, spread(i), want)
			}
		}
	}
	for _, e := range []api.Errno{0, api.ErrTaken, api.ErrFull, api.ErrUnknown, api.ErrState} {
		if count[e] < 500 {
			t.Errorf("%d came %d times only", e, count[e])
		}
	}
}

// A list that a call returned stays as it was when later calls are made with it.
func TestListsStayAsTheyWere(t *testing.T) {
	type kept struct{ list, copy []api.Case }
	var all []kept
	keep := func(cs []api.Case) { all = append(all, kept{cs, slices.Clone(cs)}) }
	f := api.Config{Open: 6, Quiet: 5}
	var cs []api.Case
	for now := range 200 {
		// Answers of one list, each of which may have room for the next one.
		a := api.Addr(now * 5)
		for _, b := range []api.Addr{a + 1, a + 2} {
			other, _ := cases.Raise(f, cs, b, now)
			keep(other)
		}
		if more, err := cases.Raise(f, cs, a, now); err == 0 {
			cs = more
		}
		keep(cs)
		for _, m := range moves {
			one, err := m.call(cs, api.Addr((now-now%3)*5), now)
			keep(one)
			if err == 0 && now%4 > 0 {
				cs = one
			}
		}
		late := cases.Tick(f, cs, now+2)
		keep(late)
		cs = cases.Tick(f, cs, now)
		keep(cs)
	}
	if len(all) != 200*9 {
		t.Errorf("%d lists were kept", len(all))
	}
	for i, k := range all {
		if !slices.Equal(k.list, k.copy) {
			t.Errorf("list %d was %v, and is %v", i, k.copy, k.list)
		}
	}
}

// Lists and numbers that are not valid: whatever is answered, no call panics, and each one ends.
func TestArgumentsThatAreNotValid(t *testing.T) {
	lists := [][]api.Case{nil, apart(17, stages...), apart(1000, stages...), make([]api.Case, 17), make([]api.Case, 100000), slices.Concat(apart(9, stages...), apart(9, stages...))}
	ends := []int{math.MinInt, math.MinInt + 1, -lastTick - 1, -1 << 32, -2, -1, 0, 1, 5, 6, 1 << 32, lastTick, lastTick + 1, math.MaxInt - 1, math.MaxInt}
	for _, n := range ends {
		for _, s := range slices.Concat(stages, oddStages) {
			for _, c := range []api.Case{over(5, n, 0, s), over(5, 0, n, s), over(lastAddr, n, n, s)} {
				lists = append(lists, list(c), list(open(5, 1, api.Raised), c, c), slices.Concat(apart(16, stages...), list(c)))
			}
		}
	}
	for _, cs := range lists {
		cases.Right(cs)
		for _, n := range ends {
			cases.Find(cs, api.Addr(n))
			for _, m := range []int{math.MinInt, -1, 0, 1, math.MaxInt} {
				f := api.Config{Open: m, Quiet: m}
				cases.Tick(f, cs, n)
				for _, a := range []api.Addr{5, lastAddr} {
					cases.Raise(f, cs, a, n)
				}
			}
			for _, m := range moves {
				m.call(cs, 5, n)
			}
		}
	}
	for _, n := range ends {
		cases.Open(api.Case{Addr: api.Addr(n), Raised: n, Ended: n, Stage: api.Stage(n)})
	}
}
