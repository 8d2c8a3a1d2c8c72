package timer_test

import (
	"math"
	"slices"
	"testing"

	"millwright/api"
	"millwright/timer"
)

const most = 65536

// pair is an id and its time.
type pair struct{ id, at int }

// of is a timer of n ids with these times, set in this order.
func of(t *testing.T, n int, pairs ...pair) *timer.Timer {
	t.Helper()
	x := timer.New(n)
	for _, p := range pairs {
		mustSet(t, x, p.id, p.at, api.OK)
	}
	return x
}

// beyond is ids that no timer of n ids is of.
func beyond(n int) []int {
	return []int{-1, -2, -n - 1, n, n + 1, n + 1<<32, most, most + 1, 1 << 32, -1 << 32, math.MaxInt, math.MinInt}
}

func mustSet(t *testing.T, x *timer.Timer, id, at int, want api.Errno) {
	t.Helper()
	if err := x.Set(id, at); err != want {
		t.Errorf("Set(%d, %d): %v, want %v", id, at, err, want)
	}
}

func mustStop(t *testing.T, x *timer.Timer, id int, want bool) {
	t.Helper()
	if ok := x.Stop(id); ok != want {
		t.Errorf("Stop(%d): %v, want %v", id, ok, want)
	}
	mustLack(t, x, id)
}

// mustDue asks who is due, and again, as they have no time any more then.
func mustDue(t *testing.T, x *timer.Timer, now int, want ...int) {
	t.Helper()
	n := x.Len()
	if ids := x.Due(now); !slices.Equal(ids, want) {
		t.Errorf("Due(%d): %v, want %v", now, ids, want)
	}
	mustLack(t, x, want...)
	mustLen(t, x, n-len(want))
	if ids := x.Due(now); len(ids) != 0 {
		t.Errorf("Due(%d) once more: %v, want none", now, ids)
	}
	mustLen(t, x, n-len(want))
}

// mustNext asks for the least time, twice, as it stays.
func mustNext(t *testing.T, x *timer.Timer, want int) {
	t.Helper()
	n := x.Len()
	for range 2 {
		if at, ok := x.Next(); at != want || !ok {
			t.Errorf("Next: %d %v, want %d true", at, ok, want)
		}
	}
	mustLen(t, x, n)
}

func mustLen(t *testing.T, x *timer.Timer, want int) {
	t.Helper()
	if x.Len() != want {
		t.Errorf("Len: %d, want %d", x.Len(), want)
	}
}

func mustBeEmpty(t *testing.T, x *timer.Timer) {
	t.Helper()
	if at, ok := x.Next(); at != 0 || ok {
		t.Errorf("Next of none: %d %v", at, ok)
	}
	for _, now := range []int{math.MinInt, -1, 0, 1, math.MaxInt} {
		if ids := x.Due(now); len(ids) != 0 {
			t.Errorf("Due(%d) of none: %v", now, ids)
		}
	}
	mustLen(t, x, 0)
}

// mustHave asks for times, twice, as they stay.
func mustHave(t *testing.T, x *timer.Timer, pairs ...pair) {
	t.Helper()
	for range 2 {
		for _, p := range pairs {
			if at, ok := x.At(p.id); at != p.at || !ok {
				t.Errorf("At(%d): %d %v, want %d true", p.id, at, ok, p.at)
			}
		}
	}
}

func mustLack(t *testing.T, x *timer.Timer, ids ...int) {
	t.Helper()
	for _, id := range ids {
		if at, ok := x.At(id); at != 0 || ok {
			t.Errorf("At(%d): %d %v, want none", id, at, ok)
		}
	}
}

// H1: the document's example.
func TestExample(t *testing.T) {
	x := of(t, 3, pair{1, 5}, pair{0, 5}, pair{2, 3})
	mustDue(t, x, 5, 2, 0, 1)
	mustBeEmpty(t, x)
}

// H1: New has none; of how many ids it is, is told by what may be set.
func TestNew(t *testing.T) {
	for _, c := range []struct{ n, ids int }{
		{math.MinInt, 0}, {-1 << 32, 0}, {-65536, 0}, {-1, 0}, {0, 0},
		{1, 1}, {2, 2}, {64, 64}, {65, 65}, {65535, 65535}, {65536, 65536},
		{65537, 65536}, {1 << 20, 65536}, {1 << 32, 65536}, {1<<32 + 3, 65536}, {math.MaxInt, 65536},
	} {
		x := timer.New(c.n)
		mustBeEmpty(t, x)
		mustLack(t, x, 0, c.ids-1, c.ids)
		for _, id := range beyond(c.ids) {
			mustSet(t, x, id, 1, api.ErrArg)
		}
		mustBeEmpty(t, x)
		if c.ids > 0 {
			mustSet(t, x, c.ids-1, 7, api.OK)
			mustHave(t, x, pair{c.ids - 1, 7})
			mustDue(t, x, 7, c.ids-1)
			mustBeEmpty(t, x)
		}
	}
}

// H1: all ids may have a time at once, as many as there may be.
func TestAllIDs(t *testing.T) {
	x := timer.New(math.MaxInt)
	var want []int
	for id := range most {
		if err := x.Set(id, -(id / 2)); err != api.OK {
			t.Fatalf("Set(%d): %v", id, err)
		}
		// Of two that share a time the least one is first.
		want = append(want, most-2-id/2*2+id%2)
	}
	mustSet(t, x, most, -most, api.ErrArg)
	mustLen(t, x, most)
	mustNext(t, x, -(most/2 - 1))
	// The times go down to -(most/2 - 1), two ids each: half of them are due at -most/4.
	early := x.Due(-most / 4)
	mustLen(t, x, most/2)
	mustNext(t, x, -most/4+1)
	if all := append(early, x.Due(math.MaxInt)...); len(early) != most/2 || !slices.Equal(all, want) {
		t.Errorf("due: %d early, %d in all, or not in order; want %d, %d", len(early), len(all), most/2, most)
	}
	mustBeEmpty(t, x)
}

// H1: Set tells ErrArg of what is no id, and then changes nothing.
func TestSetWrong(t *testing.T) {
	x := of(t, 5, pair{4, -1}, pair{0, 0})
	for _, id := range beyond(5) {
		mustSet(t, x, id, -9, api.ErrArg)
		mustSet(t, x, id, math.MaxInt, api.ErrArg)
		mustLack(t, x, id)
	}
	mustLack(t, x, 1, 2, 3)
	mustHave(t, x, pair{4, -1}, pair{0, 0})
	mustNext(t, x, -1)
	mustDue(t, x, math.MaxInt, 4, 0)
}

// H1: a time that is set stands in the place of the one before, be it earlier, later or the same.
func TestSetAnew(t *testing.T) {
	for _, at := range []int{math.MinInt, -5, 2, 3, 4, 5, 6, 9, math.MaxInt} {
		x := of(t, 4, pair{1, 5}, pair{2, 3}, pair{0, 6})
		mustSet(t, x, 1, at, api.OK)
		mustLen(t, x, 3)
		mustHave(t, x, pair{1, at}, pair{2, 3}, pair{0, 6})
		mustNext(t, x, min(at, 3))
		switch {
		case at < 3:
			mustDue(t, x, math.MaxInt, 1, 2, 0)
		case at < 6: // of two of one time 1 stands ahead of 2
			mustDue(t, x, 2)
			if at == 3 {
				mustDue(t, x, 3, 1, 2)
			} else {
				mustDue(t, x, 3, 2)
				mustDue(t, x, 5, 1)
			}
			mustDue(t, x, 6, 0)
		default: // and behind 0
			mustDue(t, x, 5, 2)
			mustDue(t, x, math.MaxInt, 0, 1)
		}
		mustBeEmpty(t, x)
	}
}

// H1: what was set anew is due once, at its last time alone.
func TestSetAnewIsDueOnce(t *testing.T) {
	x := timer.New(1)
	for _, at := range []int{4, 8, 2, 6, 6} {
		mustSet(t, x, 0, at, api.OK)
		mustLen(t, x, 1)
	}
	for now := range 6 {
		mustDue(t, x, now)
	}
	mustDue(t, x, 6, 0)
	mustDue(t, x, 8)
	mustBeEmpty(t, x)
}

// H1: any number may be a time; 0 is one, and those far from each other are in order too.
func TestTimes(t *testing.T) {
	all := []pair{{0, math.MaxInt}, {1, 0}, {2, math.MinInt}, {3, -1}, {4, 1}, {5, math.MinInt}, {6, math.MaxInt}, {7, math.MinInt + 1}}
	x := of(t, 8, all...)
	mustHave(t, x, all...)
	for _, s := range []struct {
		now, next int
		want      []int
	}{
		{math.MinInt, math.MinInt + 1, []int{2, 5}}, {math.MinInt + 1, -1, []int{7}}, {-2, -1, nil}, {-1, 0, []int{3}},
		{0, 1, []int{1}}, {1, math.MaxInt, []int{4}}, {math.MaxInt - 1, math.MaxInt, nil},
	} {
		mustDue(t, x, s.now, s.want...)
		mustNext(t, x, s.next)
	}
	mustDue(t, x, math.MaxInt, 0, 6)
	mustBeEmpty(t, x)
}

// H1: Due tells all whose time is at most now, not those of a later one, which stay.
func TestDueEdges(t *testing.T) {
	x := of(t, 6, pair{5, 10}, pair{4, 11}, pair{3, 9}, pair{2, 10}, pair{1, 12})
	mustDue(t, x, 8)
	mustDue(t, x, math.MinInt)
	mustDue(t, x, 10, 3, 2, 5)
	mustHave(t, x, pair{4, 11}, pair{1, 12})
	mustNext(t, x, 11)
	mustDue(t, x, 9)
	mustDue(t, x, 11, 4)
	mustDue(t, x, 12, 1)
	mustBeEmpty(t, x)
}

// H1: a time before one that Due was asked for already may be set, and is due.
func TestSetBehindDue(t *testing.T) {
	x := of(t, 3, pair{1, 100})
	mustDue(t, x, 100, 1)
	mustSet(t, x, 1, 7, api.OK)
	mustSet(t, x, 0, -7, api.OK)
	mustNext(t, x, -7)
	mustDue(t, x, 6, 0)
	mustDue(t, x, 7, 1)
	mustBeEmpty(t, x)
}

// H1: of one time the ids rise, in whatever order it was set.
func TestSameTimes(t *testing.T) {
	for _, at := range []int{math.MinInt, -3, 0, 3, math.MaxInt} {
		for stride := range 9 {
			if stride%3 == 0 { // would not come to all ids
				continue
			}
			x := timer.New(9)
			for i := range 9 {
				mustSet(t, x, (i*stride+3)%9, at, api.OK)
			}
			mustNext(t, x, at)
			mustDue(t, x, at, 0, 1, 2, 3, 4, 5, 6, 7, 8)
			mustBeEmpty(t, x)
		}
	}
}

// H1: Stop tells whether there was a time, which is not due any more; the others' stay.
func TestStop(t *testing.T) {
	all := []pair{{0, -4}, {5, -4}, {3, 0}, {1, 2}, {6, 2}, {2, 7}, {4, 9}}
	for out, gone := range all {
		x := timer.New(8)
		for i := range all {
			p := all[(i*3+out)%len(all)]
			mustSet(t, x, p.id, p.at, api.OK)
		}
		mustStop(t, x, gone.id, true)
		mustStop(t, x, gone.id, false)
		mustStop(t, x, 7, false)
		mustLen(t, x, len(all)-1)
		rest := slices.Delete(slices.Clone(all), out, out+1)
		mustHave(t, x, rest...)
		mustNext(t, x, rest[0].at)
		var want []int
		for _, p := range rest {
			want = append(want, p.id)
		}
		mustDue(t, x, 50, want...)
		for _, p := range all {
			mustStop(t, x, p.id, false)
		}
		mustBeEmpty(t, x)
	}
}

// H1: what is no id has no time that could be stopped.
func TestStopWrong(t *testing.T) {
	x := of(t, 3, pair{0, 5}, pair{2, 3})
	for _, id := range beyond(3) {
		mustStop(t, x, id, false)
	}
	mustLen(t, x, 2)
	mustHave(t, x, pair{0, 5}, pair{2, 3})
	mustDue(t, x, 5, 2, 0)
	mustStop(t, timer.New(0), 0, false)
}

// H1: a stopped one may be set again, to any time.
func TestSetBehindStop(t *testing.T) {
	x := of(t, 2, pair{0, 5}, pair{1, 6})
	mustStop(t, x, 0, true)
	mustSet(t, x, 0, 9, api.OK)
	mustDue(t, x, 8, 1)
	mustStop(t, x, 0, true)
	mustSet(t, x, 0, 1, api.OK)
	mustDue(t, x, 1, 0)
	mustBeEmpty(t, x)
}

// H1: At tells nothing of what has no time, or is no id, and Len counts those that have one.
func TestAtLen(t *testing.T) {
	x := timer.New(3)
	for i, id := range []int{2, 0, 1} {
		mustLack(t, x, id)
		mustSet(t, x, id, 0, api.OK)
		mustHave(t, x, pair{id, 0})
		mustLen(t, x, i+1)
	}
	mustLack(t, x, beyond(3)...)
	for i, id := range []int{0, 2, 1} {
		mustStop(t, x, id, true)
		mustLen(t, x, 2-i)
	}
	mustBeEmpty(t, x)
}

// R1: what Due answers is the caller's.
func TestDueIsTheCallers(t *testing.T) {
	x := of(t, 4, pair{0, 1}, pair{1, 1}, pair{2, 2}, pair{3, 3})
	first := x.Due(1)
	for i := range first {
		first[i] = 9
	}
	first = append(first, 9, 9)
	mustHave(t, x, pair{2, 2}, pair{3, 3})
	second := x.Due(2)
	mustSet(t, x, 0, 3, api.OK)
	mustDue(t, x, 3, 0, 3)
	if !slices.Equal(first, []int{9, 9, 9, 9}) || !slices.Equal(second, []int{2}) {
		t.Errorf("answers have changed: %v %v", first, second)
	}
}

// R3: two timers have nothing to do with each other.
func TestTwoTimers(t *testing.T) {
	a, b := of(t, 3, pair{0, 5}, pair{1, 6}), of(t, 3, pair{0, 7}, pair{2, 1})
	mustSet(t, a, 0, -5, api.OK)
	mustStop(t, b, 2, true)
	mustSet(t, a, 2, 9, api.OK)
	mustHave(t, a, pair{0, -5}, pair{1, 6}, pair{2, 9})
	mustHave(t, b, pair{0, 7})
	mustLack(t, b, 1, 2)
	mustDue(t, a, 7, 0, 1)
	mustDue(t, b, 7, 0)
	mustDue(t, a, 9, 2)
}

// Ways: the heap's faces are the timer's, and speak of the same times.
func TestHeapFaces(t *testing.T) {
	var x interface {
		Has(id int) bool
		First() (id, key int, ok bool)
		Len() int
	} = of(t, 3, pair{0, 8}, pair{2, 4})
	if id, at, ok := x.First(); id != 2 || at != 4 || !ok {
		t.Errorf("First: %d %d %v, want 2 4 true", id, at, ok)
	}
	if !x.Has(0) || x.Has(1) || !x.Has(2) || x.Len() != 2 {
		t.Errorf("Has: %v %v %v, Len: %d", x.Has(0), x.Has(1), x.Has(2), x.Len())
	}
}

// told is the promise once more: of each id whether it has a time, and which, and nothing else.
type told struct {
	has []bool
	at  []int
}

func (m *told) isID(id int) bool { return id >= 0 && id < len(m.has) }

func (m *told) next() (at int, ok bool) {
	for id, has := range m.has {
		if has && (!ok || m.at[id] < at) {
			at, ok = m.at[id], true
		}
	}
	return at, ok
}

// What a step does.
const (
	set = iota
	stop
	due
	kinds
)

// step is of this id, and this time, as far as its kind has any.
type step struct{ kind, id, at int }

// answer is all that a step tells.
type answer struct {
	err api.Errno
	ok  bool
	ids []int
}

func (m *told) take(s step) (a answer) {
	switch s.kind {
	case set:
		if !m.isID(s.id) {
			return answer{err: api.ErrArg}
		}
		m.has[s.id], m.at[s.id] = true, s.at
	case stop:
		if m.isID(s.id) {
			a.ok, m.has[s.id] = m.has[s.id], false
		}
	case due:
		for at, ok := m.next(); ok && at <= s.at; at, ok = m.next() {
			for id := range m.has {
				if m.has[id] && m.at[id] == at {
					a.ids, m.has[id] = append(a.ids, id), false
				}
			}
		}
	}
	return a
}

func take(x *timer.Timer, s step) (a answer) {
	switch s.kind {
	case set:
		a.err = x.Set(s.id, s.at)
	case stop:
		a.ok = x.Stop(s.id)
	case due:
		a.ids = x.Due(s.at)
	}
	return a
}

// mustBe asks a timer for all that may be asked without a change.
func mustBe(t *testing.T, x *timer.Timer, m *told) {
	t.Helper()
	n := 0
	for id := -1; id <= len(m.has); id++ {
		if !m.isID(id) || !m.has[id] {
			mustLack(t, x, id)
			continue
		}
		n++
		mustHave(t, x, pair{id, m.at[id]})
	}
	at, ok := x.Next()
	if wantAt, wantOK := m.next(); at != wantAt || ok != wantOK {
		t.Errorf("Next: %d %v, want %d %v", at, ok, wantAt, wantOK)
	}
	mustLen(t, x, n)
}

// mustTake takes these steps with a new timer of n ids, which must do as is told.
func mustTake(t *testing.T, n int, steps []step) {
	t.Helper()
	x, m := timer.New(n), &told{make([]bool, n), make([]int, n)}
	for i, s := range steps {
		got, want := take(x, s), m.take(s)
		if got.err != want.err || got.ok != want.ok || !slices.Equal(got.ids, want.ids) {
			t.Errorf("%d ids, step %d %v: %v, want %v", n, i, s, got, want)
		}
		mustBe(t, x, m)
		if t.Failed() {
			t.Fatalf("%d ids: %v", n, steps[:i+1])
		}
	}
}

// H1: all rows of up to four steps of timers of up to three ids.
func TestAllShortRows(t *testing.T) {
	for n := range 4 {
		all := []step{{kind: due, at: -1}, {kind: due}, {kind: due, at: 1}}
		for id := -1; id <= n; id++ {
			all = append(all, step{kind: stop, id: id}, step{set, id, 0}, step{set, id, 1})
		}
		var grow func(steps []step)
		grow = func(steps []step) {
			if len(steps) == 4 {
				mustTake(t, n, steps)
				return
			}
			for _, s := range all {
				grow(append(steps, s))
			}
		}
		grow(make([]step, 0, 4))
	}
}

// H1, R4: long rows of steps, some of which have no id or no time, taken twice.
func TestLongRows(t *testing.T) {
	x := uint32(7)
	next := func(below int) int { // a row of numbers that looks like one by chance, and is always the same
		x = x*1664525 + 1013904223
		return int(x>>8) % below
	}
	for n := 1; n <= 40; n++ {
		var steps []step
		for i := range 400 {
			kind := next(kinds)
			if i%80 < 60 && kind == due { // seldom, so that many have a time, and earlier times are set behind later ones
				kind = set
			}
			steps = append(steps, step{kind, next(n+2) - 1, next(40) - 20})
		}
		mustTake(t, n, steps)
		mustTake(t, n, steps)
	}
}
