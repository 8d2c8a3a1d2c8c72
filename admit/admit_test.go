package admit_test

import (
	"math"
	"slices"
	"testing"

	"millwright/admit"
	"millwright/api"
)

// told is the promise once more: one row of all who are there, the first ones of which are active.
type told struct {
	active, queue int
	all           []int // the active ones as they became so, then those that wait as they came
}

func newTold(active, queue int) *told {
	return &told{active: max(active, 1), queue: max(queue, 0)}
}

// actives is how many are active: all, if there is room for all.
func (m *told) actives() int { return min(len(m.all), m.active) }

func (m *told) state(id int) (int, bool) {
	at := slices.Index(m.all, id)
	switch {
	case at < 0:
		return 0, false
	case at < m.active:
		return 1, true
	}
	return 0, true
}

func (m *told) add(id int) (int, api.Errno) {
	if slices.Contains(m.all, id) {
		return 0, api.ErrState
	}
	if len(m.all) >= m.active && len(m.all)-m.active >= m.queue {
		return 0, api.ErrFull
	}
	m.all = append(m.all, id)
	state, _ := m.state(id)
	return state, api.OK
}

func (m *told) end(id int) (int, api.Errno) {
	at := slices.Index(m.all, id)
	if at < 0 {
		return 0, api.ErrNone
	}
	next := -1
	if at < m.active && len(m.all) > m.active {
		next = m.all[m.active]
	}
	m.all = slices.Delete(m.all, at, at+1)
	return next, api.OK
}

// odd is numbers that are mostly not there.
func odd() []int {
	return []int{math.MinInt, -1 << 32, -3, -2, -1, 0, 1, 2, 63, 64, 99, 1 << 20, 1 << 32, math.MaxInt}
}

// mustBe asks an Admit for all that may be asked, twice, as asking changes nothing.
func mustBe(t *testing.T, a *admit.Admit, m *told) {
	t.Helper()
	for range 2 {
		actives, waiting := a.Actives(), a.Waiting()
		if many := m.actives(); !slices.Equal(actives, m.all[:many]) || !slices.Equal(waiting, m.all[many:]) {
			t.Errorf("%v %v, want %v", actives, waiting, m)
		}
		if len(waiting) > 0 && len(actives) < m.active {
			t.Errorf("%v wait, though there is room: %v", waiting, actives)
		}
		for id := range 12 {
			mustAsk(t, a, m, id)
		}
		for _, id := range odd() {
			mustAsk(t, a, m, id)
		}
		for _, id := range m.all {
			mustAsk(t, a, m, id)
		}
	}
}

// mustAsk asks what an id is.
func mustAsk(t *testing.T, a *admit.Admit, m *told, id int) {
	want, known := m.state(id)
	if state, ok := a.State(id); state != want || ok != known {
		t.Errorf("State(%d) of %v: %d %v", id, m, state, ok)
	}
}

// step is a call that may change an Admit.
type step struct {
	end bool
	id  int
}

// mustDo does a step with an Admit, which must do as is told.
func mustDo(t *testing.T, a *admit.Admit, m *told, s step) {
	t.Helper()
	if s.end {
		want, wantErr := m.end(s.id)
		if next, err := a.End(s.id); next != want || err != wantErr {
			t.Errorf("End(%d): %d %v, want %d %v", s.id, next, err, want, wantErr)
		}
	} else {
		want, wantErr := m.add(s.id)
		if state, err := a.Add(s.id); state != want || err != wantErr {
			t.Errorf("Add(%d): %d %v, want %d %v", s.id, state, err, want, wantErr)
		}
	}
	mustBe(t, a, m)
}

// mustDoAll does these steps with a new Admit.
func mustDoAll(t *testing.T, active, queue int, row []step) {
	t.Helper()
	a, m := admit.New(active, queue), newTold(active, queue)
	for i, s := range row {
		mustDo(t, a, m, s)
		if t.Failed() {
			t.Fatalf("active %d, queue %d, step %d of %v", active, queue, i, row)
		}
	}
}

// mustAdd is an Add that must answer so.
func mustAdd(t *testing.T, a *admit.Admit, id, state int, err api.Errno) {
	t.Helper()
	if gotState, gotErr := a.Add(id); gotState != state || gotErr != err {
		t.Errorf("Add(%d): %d %v, want %d %v", id, gotState, gotErr, state, err)
	}
}

// mustEnd is an End that must answer so.
func mustEnd(t *testing.T, a *admit.Admit, id, next int, err api.Errno) {
	t.Helper()
	if gotNext, gotErr := a.End(id); gotNext != next || gotErr != err {
		t.Errorf("End(%d): %d %v, want %d %v", id, gotNext, gotErr, next, err)
	}
}

// K1: the document's example.
func TestExample(t *testing.T) {
	a := admit.New(1, 1)
	mustAdd(t, a, 5, api.Active, api.OK)
	mustAdd(t, a, 6, api.Queued, api.OK)
	mustAdd(t, a, 7, 0, api.ErrFull)
	mustEnd(t, a, 5, 6, api.OK)
	mustBe(t, a, &told{1, 1, []int{6}})
}

// K1: at first nobody is there, whatever the bounds; a bound of all ints takes no memory ahead.
func TestNew(t *testing.T) {
	for _, active := range odd() {
		for _, queue := range odd() {
			a := admit.New(active, queue)
			mustBe(t, a, newTold(active, queue))
			mustEnd(t, a, 0, 0, api.ErrNone)
			mustAdd(t, a, 3, api.Active, api.OK)
			mustBe(t, a, &told{max(active, 1), max(queue, 0), []int{3}})
		}
	}
}

// K1: active below 1 is 1, queue below 0 is 0; so many are active, then so many wait, and one more finds it full.
func TestBounds(t *testing.T) {
	for active := -3; active <= 6; active++ {
		for queue := -3; queue <= 6; queue++ {
			a, m := admit.New(active, queue), newTold(active, queue)
			for id := range max(active, 1) {
				mustAdd(t, a, 10+id, api.Active, api.OK)
				m.all = append(m.all, 10+id)
				mustBe(t, a, m)
			}
			for id := range max(queue, 0) {
				mustAdd(t, a, 5-id, api.Queued, api.OK)
				m.all = append(m.all, 5-id)
				mustBe(t, a, m)
			}
			mustAdd(t, a, 77, 0, api.ErrFull)
			mustBe(t, a, m)
		}
	}
	for _, low := range []int{math.MinInt, -1 << 32, -1} {
		a := admit.New(low, low)
		mustAdd(t, a, 1, api.Active, api.OK)
		mustAdd(t, a, 2, 0, api.ErrFull)
		mustEnd(t, a, 1, -1, api.OK)
		mustAdd(t, a, 2, api.Active, api.OK)
	}
}

// K1: where nobody may wait, it is full as soon as all that may are active, and there is room again behind End.
func TestNoQueue(t *testing.T) {
	a := admit.New(2, 0)
	mustAdd(t, a, 4, api.Active, api.OK)
	mustAdd(t, a, 3, api.Active, api.OK)
	mustAdd(t, a, 2, 0, api.ErrFull)
	mustEnd(t, a, 2, 0, api.ErrNone)
	mustEnd(t, a, 4, -1, api.OK)
	mustAdd(t, a, 2, api.Active, api.OK)
	mustBe(t, a, &told{2, 0, []int{3, 2}})
}

// K1: who is active or waits is ErrState, also where it is full, and nothing is changed.
func TestAddAgain(t *testing.T) {
	a, m := admit.New(2, 2), newTold(2, 2)
	for i, id := range []int{8, 6, 7, 5} {
		mustDo(t, a, m, step{id: id})
		for _, there := range []int{8, 6, 7, 5}[:i+1] {
			mustAdd(t, a, there, 0, api.ErrState)
			mustBe(t, a, m)
		}
	}
	mustAdd(t, a, 9, 0, api.ErrFull)
	mustBe(t, a, m)
}

// K1: End of who is neither is ErrNone, and nothing is changed; who was refused, or has ended, is neither.
func TestEndNone(t *testing.T) {
	a, m := admit.New(1, 1), newTold(1, 1)
	for _, id := range append(odd(), 7) {
		mustEnd(t, a, id, 0, api.ErrNone)
		mustBe(t, a, m)
	}
	mustDo(t, a, m, step{id: 10})
	mustDo(t, a, m, step{id: 11})
	mustDo(t, a, m, step{id: 12})
	for _, id := range append(odd(), 7, 12) {
		mustEnd(t, a, id, 0, api.ErrNone)
		mustBe(t, a, m)
	}
	mustEnd(t, a, 10, 11, api.OK)
	mustEnd(t, a, 10, 0, api.ErrNone)
	mustBe(t, a, &told{1, 1, []int{11}})
	mustEnd(t, a, 11, -1, api.OK)
	mustEnd(t, a, 11, 0, api.ErrNone)
	mustBe(t, a, newTold(1, 1))
}

// K1: if one that was active ends, the first one that waits is active, last of all that are; who waits behind it keeps their place.
func TestEndActive(t *testing.T) {
	for at := range 3 {
		a, m := admit.New(3, 3), newTold(3, 3)
		for _, id := range []int{30, 20, 10, 3, 2, 1} {
			mustDo(t, a, m, step{id: id})
		}
		ended := m.all[at]
		mustEnd(t, a, ended, 3, api.OK)
		want := slices.Delete([]int{30, 20, 10, 3, 2, 1}, at, at+1)
		mustBe(t, a, &told{3, 3, want})
		mustAdd(t, a, ended, api.Queued, api.OK)
		mustBe(t, a, &told{3, 3, append(want, ended)})
	}
}

// K1: if one that waits ends, nobody else is active for it: -1, whoever else waits.
func TestEndWaiting(t *testing.T) {
	for at := range 3 {
		a, m := admit.New(2, 3), newTold(2, 3)
		for _, id := range []int{20, 10, 3, 2, 1} {
			mustDo(t, a, m, step{id: id})
		}
		mustEnd(t, a, 3-at, -1, api.OK)
		want := slices.Delete([]int{20, 10, 3, 2, 1}, 2+at, 3+at)
		mustBe(t, a, &told{2, 3, want})
		mustAdd(t, a, 9, api.Queued, api.OK)
		mustBe(t, a, &told{2, 3, append(want, 9)})
		mustAdd(t, a, 8, 0, api.ErrFull)
	}
}

// K1: if one that was active ends, and nobody waits, it is -1, whoever else is active.
func TestEndLast(t *testing.T) {
	a, m := admit.New(3, 3), newTold(3, 3)
	for _, id := range []int{4, 5, 6} {
		mustDo(t, a, m, step{id: id})
	}
	mustEnd(t, a, 5, -1, api.OK)
	mustBe(t, a, &told{3, 3, []int{4, 6}})
	mustAdd(t, a, 5, api.Active, api.OK)
	mustBe(t, a, &told{3, 3, []int{4, 6, 5}})
}

// K1: an id is any number, also one below 0, and 0 is one like the others.
func TestIDs(t *testing.T) {
	a, m := admit.New(5, 30), newTold(5, 30)
	for _, id := range odd() {
		mustDo(t, a, m, step{id: id})
	}
	if len(m.all) != len(odd()) {
		t.Errorf("%v", m)
	}
	for _, id := range []int{64, 0, -1, math.MinInt, 1 << 32, math.MaxInt, -3} {
		mustDo(t, a, m, step{end: true, id: id})
		mustDo(t, a, m, step{end: true, id: id})
		mustDo(t, a, m, step{id: id})
	}
}

// R1: the lists are the caller's, who may write over them and beyond them, and keep what they said.
func TestListsAreTheCallers(t *testing.T) {
	a, m := admit.New(3, 3), newTold(3, 3)
	for _, id := range []int{5, 4, 3, 2, 1} {
		mustDo(t, a, m, step{id: id})
	}
	kept, alsoKept := a.Actives(), a.Waiting()
	for _, list := range [][]int{a.Actives(), a.Waiting()} {
		for i := range list {
			list[i] = 99
		}
		list = append(list, 98, 97)
		clear(list[:cap(list)])
		mustBe(t, a, m)
	}
	mustDo(t, a, m, step{end: true, id: 5})
	mustDo(t, a, m, step{end: true, id: 1})
	mustDo(t, a, m, step{id: 7})
	if !slices.Equal(kept, []int{5, 4, 3}) || !slices.Equal(alsoKept, []int{2, 1}) {
		t.Errorf("%v %v", kept, alsoKept)
	}
}

// R3: two have nothing to do with each other.
func TestTwo(t *testing.T) {
	a, b := admit.New(1, 1), admit.New(1, 1)
	mustAdd(t, a, 1, api.Active, api.OK)
	mustAdd(t, a, 2, api.Queued, api.OK)
	mustBe(t, b, newTold(1, 1))
	mustAdd(t, b, 2, api.Active, api.OK)
	mustEnd(t, a, 1, 2, api.OK)
	mustBe(t, b, &told{1, 1, []int{2}})
	mustEnd(t, b, 2, -1, api.OK)
	mustBe(t, a, &told{1, 1, []int{2}})
}

// K1: all rows of five steps of four ids, within small bounds.
func TestAllShortRows(t *testing.T) {
	var all []step
	for id := range 4 {
		all = append(all, step{id: id - 1}, step{end: true, id: id - 1})
	}
	for _, c := range []struct{ active, queue int }{{0, -1}, {1, 1}, {1, 2}, {2, 0}, {2, 1}} {
		allRows(all, 5, nil, func(row []step) { mustDoAll(t, c.active, c.queue, row) })
	}
}

// allRows does something with each row of so many more steps.
func allRows(all []step, more int, row []step, do func([]step)) {
	if more == 0 {
		do(row)
		return
	}
	for _, s := range all {
		allRows(all, more-1, append(slices.Clone(row), s), do)
	}
}

// K1: long rows, within bounds of all sizes, that are nearly full most of the time.
func TestLongRows(t *testing.T) {
	for seed := range 150 {
		active, queue := seed%9-1, seed*5%11-1
		x, row := seed, []step{}
		next := func(n int) int {
			x = (x*1103515245 + 12345) & (1<<31 - 1)
			return x >> 16 % n
		}
		for range 200 {
			row = append(row, step{end: next(5) < 2, id: next(max(active, 1) + max(queue, 0) + 4)})
		}
		mustDoAll(t, active, queue, row)
	}
}
