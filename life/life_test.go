package life_test

import (
	"math"
	"slices"
	"strings"
	"testing"

	"millwright/api"
	"millwright/life"
)

// A letter for each state, at the place of its number.
const letters = "NRUWBDFC" // New, Ready, rUnning, Waiting, Backoff, Done, Failed, Cyclic

// step is one of the calls of I2: of each state, by its number, what becomes of it; '.': ErrState.
type step struct {
	to   string // 'm' is Backoff or Failed, 's' Ready or ErrFull: these hang on how often it was
	name string
	do   func(*life.Life) api.Errno
}

func steps() []step {
	return []step{
		// NRUWBDFC
		{"R.......", "Want", (*life.Life).Want},
		{".U......", "Start", (*life.Life).Start},
		{"..s.....", "Stop", (*life.Life).Stop},
		{"..W.....", "Wait", (*life.Life).Wait},
		{"..R.....", "Again", (*life.Life).Again},
		{"...R....", "Wake", (*life.Life).Wake},
		{"..m.....", "Miss", (*life.Life).Miss},
		{"....R...", "Rested", (*life.Life).Rested},
		{"..D.....", "End", (*life.Life).End},
		{"F..F....", "Fall", (*life.Life).Fall},
		{"CCCCC...", "Turn", (*life.Life).Turn},
	}
}

func isFinal(state int) bool { return state == api.Done || state == api.Failed || state == api.Cyclic }

// told is the promise once more: all that is known of a life.
type told struct {
	state, epoch, missed, stopped int
	tries, preempts               int
}

func newTold(tries, preempts int) told {
	return told{tries: max(1, tries), preempts: max(0, preempts)}
}

func (m *told) take(s step) api.Errno {
	to := s.to[m.state]
	switch {
	case to == '.':
		return api.ErrState
	case to == 's' && m.stopped == m.preempts:
		return api.ErrFull
	case to == 's':
		m.stopped++
		to = 'R'
	case to == 'm':
		m.missed++
		to = 'B'
		if m.missed == m.tries {
			to = 'F'
		}
	case to == 'U':
		m.epoch++
	}
	m.state = strings.IndexByte(letters, to)
	return api.OK
}

// mustBe asks a life for all that may be asked, twice, as asking changes nothing.
func mustBe(t *testing.T, l *life.Life, m told) {
	t.Helper()
	for range 2 {
		got := told{l.State(), l.Epoch(), l.Missed(), l.Stopped(), m.tries, m.preempts}
		if got != m {
			t.Errorf("state, epoch, missed, stopped (tries, preempts): %v, want %v", got, m)
		}
		if l.Final() != isFinal(m.state) {
			t.Errorf("Final in state %d: %v", m.state, l.Final())
		}
		for _, epoch := range []int{m.epoch, 0, m.epoch - 1, m.epoch + 1, -m.epoch, m.epoch + 1<<32, math.MaxInt, math.MinInt} {
			want := api.ErrStale
			if m.state == api.Running && epoch == m.epoch {
				want = api.OK
			}
			if err := l.Right(epoch); err != want {
				t.Errorf("Right(%d) in state %d of epoch %d: %v, want %v", epoch, m.state, m.epoch, err, want)
			}
		}
	}
}

// mustTake takes a step with a life, which must do as is told.
func mustTake(t *testing.T, l *life.Life, m *told, s step) {
	t.Helper()
	before := *m
	want := m.take(s)
	if err := s.do(l); err != want {
		t.Errorf("%s of %v: %v, want %v", s.name, before, err, want)
	}
	mustBe(t, l, *m)
}

// mustGo takes these steps, one word each, all of which must be OK.
func mustGo(t *testing.T, l *life.Life, names string) {
	t.Helper()
	all := steps()
	for _, name := range strings.Fields(names) {
		i := slices.IndexFunc(all, func(s step) bool { return s.name == name })
		if err := all[i].do(l); err != api.OK {
			t.Errorf("%s of %q: %v", name, names, err)
		}
	}
}

func mustErr(t *testing.T, what string, err, want api.Errno) {
	t.Helper()
	if err != want {
		t.Errorf("%s: %v, want %v", what, err, want)
	}
}

// ways is, of each state, rows of steps that come to it.
func ways() [][]string {
	return [][]string{
		api.New:     {""},
		api.Ready:   {"Want", "Want Start Stop", "Want Start Again", "Want Start Wait Wake", "Want Start Miss Rested"},
		api.Running: {"Want Start", "Want Start Stop Start", "Want Start Wait Wake Start", "Want Start Miss Rested Start"},
		api.Waiting: {"Want Start Wait", "Want Start Stop Start Again Start Wait"},
		api.Backoff: {"Want Start Miss", "Want Start Again Start Miss"},
		api.Done:    {"Want Start End", "Want Start Miss Rested Start End"},
		api.Failed:  {"Fall", "Want Start Wait Fall", "Want Start Miss Rested Start Miss"},
		api.Cyclic:  {"Turn", "Want Turn", "Want Start Turn", "Want Start Wait Turn", "Want Start Miss Turn"},
	}
}

// of is a life that may miss twice and be stopped once, and has gone this way.
func of(t *testing.T, way string) *life.Life {
	t.Helper()
	l := life.New(2, 1)
	mustGo(t, l, way)
	return l
}

// I2: the document's example.
func TestExample(t *testing.T) {
	l := life.New(2, 0)
	mustGo(t, l, "Want Start Miss")
	mustBe(t, l, told{api.Backoff, 1, 1, 0, 2, 0})
	mustGo(t, l, "Rested Start Miss")
	mustBe(t, l, told{api.Failed, 2, 2, 0, 2, 0})
}

// I1: at first it is New, has never run, missed or been stopped, and no epoch is right, 0 neither.
func TestNew(t *testing.T) {
	all := []int{math.MinInt, -1 << 32, -1, 0, 1, 2, 1 << 20, 1 << 32, math.MaxInt}
	for _, tries := range all {
		for _, preempts := range all {
			l := life.New(tries, preempts)
			mustBe(t, l, newTold(tries, preempts))
			mustErr(t, "Right(0) of a new one", l.Right(0), api.ErrStale)
		}
	}
}

// I1, I2: it may miss tries times, below 1: 1.
func TestTries(t *testing.T) {
	for _, c := range []struct{ tries, times int }{
		{math.MinInt, 1}, {-1 << 32, 1}, {-7, 1}, {-1, 1}, {0, 1}, {1, 1}, {2, 2}, {3, 3}, {10, 10}, {1000, 1000},
	} {
		l := life.New(c.tries, 0)
		mustGo(t, l, "Want")
		for i := 1; i < c.times; i++ {
			mustGo(t, l, "Start Miss")
			mustBe(t, l, told{api.Backoff, i, i, 0, c.times, 0})
			mustGo(t, l, "Rested")
		}
		mustGo(t, l, "Start Miss")
		mustBe(t, l, told{api.Failed, c.times, c.times, 0, c.times, 0})
		mustErr(t, "Miss of a failed one", l.Miss(), api.ErrState)
		mustBe(t, l, told{api.Failed, c.times, c.times, 0, c.times, 0})
	}
}

// I1: who may miss as often as a number can tell is in Backoff still.
func TestManyTries(t *testing.T) {
	for _, tries := range []int{1 << 20, 1 << 32, 1<<32 + 1, 1<<63 - 2, math.MaxInt} {
		l := life.New(tries, 0)
		mustGo(t, l, "Want Start Miss")
		mustBe(t, l, told{api.Backoff, 1, 1, 0, tries, 0})
		mustGo(t, l, "Rested Start Miss")
		mustBe(t, l, told{api.Backoff, 2, 2, 0, tries, 0})
	}
}

// I1, I2: it may be stopped preempts times, below 0: 0; then Stop is ErrFull, and it runs on.
func TestPreempts(t *testing.T) {
	for _, c := range []struct{ preempts, times int }{
		{math.MinInt, 0}, {-1 << 32, 0}, {-7, 0}, {-1, 0}, {0, 0}, {1, 1}, {2, 2}, {3, 3}, {10, 10}, {1000, 1000},
	} {
		l := life.New(1, c.preempts)
		mustGo(t, l, "Want")
		for i := range c.times {
			mustGo(t, l, "Start Stop")
			mustBe(t, l, told{api.Ready, i + 1, 0, i + 1, 1, c.times})
			mustErr(t, "Stop of a ready one", l.Stop(), api.ErrState)
		}
		mustGo(t, l, "Start")
		running := told{api.Running, c.times + 1, 0, c.times, 1, c.times}
		for range 3 {
			mustErr(t, "Stop once more", l.Stop(), api.ErrFull)
			mustBe(t, l, running)
		}
	}
}

// I1: who may be stopped as often as a number can tell is Ready again.
func TestManyPreempts(t *testing.T) {
	for _, preempts := range []int{1 << 20, 1 << 32, 1<<32 + 1, math.MaxInt} {
		l := life.New(1, preempts)
		mustGo(t, l, "Want Start Stop Start Stop")
		mustBe(t, l, told{api.Ready, 2, 0, 2, 1, preempts})
	}
}

// I2: who was stopped as often as it may goes on as any other one that runs.
func TestBehindFull(t *testing.T) {
	for _, c := range []struct {
		name  string
		state int
	}{
		{"Wait", api.Waiting}, {"Again", api.Ready}, {"Miss", api.Backoff}, {"End", api.Done}, {"Turn", api.Cyclic},
	} {
		l := life.New(2, 0)
		mustGo(t, l, "Want Start")
		mustErr(t, "Stop", l.Stop(), api.ErrFull)
		mustErr(t, "Right(1)", l.Right(1), api.OK)
		mustGo(t, l, c.name)
		if l.State() != c.state {
			t.Errorf("%s: state %d, want %d", c.name, l.State(), c.state)
		}
	}
}

// I2: Stop of what does not run is ErrState, also if it was stopped as often as it may.
func TestStopIsStateAheadOfFull(t *testing.T) {
	for state, all := range ways() {
		if state == api.Running {
			continue
		}
		for _, way := range all {
			if strings.Contains(way, "Stop") {
				continue // these may not be stopped
			}
			l := life.New(2, 0)
			mustGo(t, l, way)
			mustErr(t, "Stop behind "+way, l.Stop(), api.ErrState)
			if l.State() != state || l.Stopped() != 0 {
				t.Errorf("Stop behind %q: state %d, stopped %d", way, l.State(), l.Stopped())
			}
		}
	}
}

// I2: missing and being stopped are counted apart, and neither by any other step.
func TestCounts(t *testing.T) {
	l := life.New(3, 3)
	for i, c := range []struct {
		names                  string
		epoch, missed, stopped int
	}{
		{"Want", 0, 0, 0}, {"Start", 1, 0, 0}, {"Wait", 1, 0, 0}, {"Wake", 1, 0, 0}, {"Start", 2, 0, 0}, {"Again", 2, 0, 0},
		{"Start", 3, 0, 0}, {"Miss", 3, 1, 0}, {"Rested", 3, 1, 0}, {"Start", 4, 1, 0}, {"Stop", 4, 1, 1},
		{"Start Stop", 5, 1, 2}, {"Start Miss", 6, 2, 2}, {"Rested Start Stop", 7, 2, 3}, {"Start Again", 8, 2, 3},
		{"Start Wait Wake Start", 10, 2, 3}, {"Miss", 10, 3, 3},
	} {
		mustGo(t, l, c.names)
		if l.Epoch() != c.epoch || l.Missed() != c.missed || l.Stopped() != c.stopped {
			t.Errorf("%d %s: epoch %d, missed %d, stopped %d, want %v", i, c.names, l.Epoch(), l.Missed(), l.Stopped(), c)
		}
	}
	if l.State() != api.Failed {
		t.Errorf("state %d", l.State())
	}
}

// I1: Right is OK of its own epoch alone, and only while it runs.
func TestRight(t *testing.T) {
	l := life.New(2, 2)
	for i, c := range []struct {
		name  string
		right int // the epoch that is right, 0 if none is
	}{
		{"Want", 0}, {"Start", 1}, {"Stop", 0}, {"Start", 2}, {"Wait", 0}, {"Wake", 0}, {"Start", 3}, {"Miss", 0},
		{"Rested", 0}, {"Start", 4}, {"Again", 0}, {"Start", 5}, {"End", 0},
	} {
		mustGo(t, l, c.name)
		for epoch := -6; epoch <= 6; epoch++ {
			want := api.ErrStale
			if c.right != 0 && epoch == c.right {
				want = api.OK
			}
			if err := l.Right(epoch); err != want {
				t.Errorf("%d %s: Right(%d): %v, want %v", i, c.name, epoch, err, want)
			}
		}
	}
}

// I1: Final is Done, Failed and Cyclic, and nothing else, whatever way led there.
func TestFinal(t *testing.T) {
	for state, all := range ways() {
		for _, way := range all {
			l := of(t, way)
			if l.State() != state || l.Final() != isFinal(state) {
				t.Errorf("%q: state %d, final %v, want %d %v", way, l.State(), l.Final(), state, isFinal(state))
			}
		}
	}
}

// I2: of each state each step, whatever way led there.
func TestSteps(t *testing.T) {
	for state, all := range ways() {
		for _, way := range all {
			for _, s := range steps() {
				l := of(t, way)
				m := told{l.State(), l.Epoch(), l.Missed(), l.Stopped(), 2, 1}
				if m.state != state {
					t.Fatalf("%q: state %d, want %d", way, m.state, state)
				}
				mustTake(t, l, &m, s)
			}
		}
	}
}

// What follows: what is final stays so, with all that is known of it.
func TestFinalStays(t *testing.T) {
	for _, state := range []int{api.Done, api.Failed, api.Cyclic} {
		for _, way := range ways()[state] {
			l := of(t, way)
			want := told{state, l.Epoch(), l.Missed(), l.Stopped(), 2, 1}
			for range 2 {
				for _, s := range steps() {
					mustErr(t, s.name+" behind "+way, s.do(l), api.ErrState)
					mustBe(t, l, want)
				}
			}
		}
	}
}

// R3: two lives have nothing to do with each other.
func TestTwoLives(t *testing.T) {
	a, b := life.New(1, 0), life.New(2, 1)
	mustGo(t, a, "Want Start")
	mustBe(t, b, told{api.New, 0, 0, 0, 2, 1})
	mustGo(t, b, "Want Start Stop Start")
	mustBe(t, a, told{api.Running, 1, 0, 0, 1, 0})
	mustErr(t, "Stop of the first", a.Stop(), api.ErrFull)
	mustGo(t, a, "Miss")
	mustGo(t, b, "Miss")
	mustBe(t, a, told{api.Failed, 1, 1, 0, 1, 0})
	mustBe(t, b, told{api.Backoff, 2, 1, 1, 2, 1})
}

// mustTakeAll takes these steps with a new life, which must do as is told at each.
func mustTakeAll(t *testing.T, tries, preempts int, row []step) {
	t.Helper()
	l, m := life.New(tries, preempts), newTold(tries, preempts)
	for i, s := range row {
		mustTake(t, l, &m, s)
		if t.Failed() {
			t.Fatalf("tries %d, preempts %d, step %d of %v", tries, preempts, i, names(row))
		}
	}
}

func names(row []step) (all []string) {
	for _, s := range row {
		all = append(all, s.name)
	}
	return all
}

// I2: all rows of four steps, also those that are ErrState, of a new life, and of one that runs.
func TestAllShortRows(t *testing.T) {
	all := steps()
	for _, first := range [][]step{nil, all[:2]} {
		for tries := range 3 {
			for preempts := range 2 {
				var grow func(row []step, more int)
				grow = func(row []step, more int) {
					if more == 0 {
						mustTakeAll(t, tries, preempts, row)
						return
					}
					for _, s := range all {
						grow(append(slices.Clone(row), s), more-1)
					}
				}
				grow(first, 4)
			}
		}
	}
}

// I2: all rows of up to nine steps that are OK, with each other step tried at each.
func TestAllRightRows(t *testing.T) {
	all := steps()
	for tries := range 4 {
		for preempts := range 3 {
			var grow func(m told, row []step)
			grow = func(m told, row []step) {
				var tried []step
				for _, s := range all {
					next := m
					if next.take(s) != api.OK {
						tried = append(tried, s)
					} else if len(row) < 9 {
						grow(next, append(slices.Clone(row), s))
					}
				}
				mustTakeAll(t, tries, preempts, append(slices.Clone(row), tried...))
			}
			grow(newTold(tries, preempts), nil)
		}
	}
}

// I2: long rows, of which only the last few steps may be to a state that is final.
func TestLongRows(t *testing.T) {
	all := steps()
	for seed := range 200 {
		tries, preempts := seed%9, seed%7
		m, row := newTold(tries, preempts), []step{}
		for x := seed; len(row) < 60; {
			x = (x*1103515245 + 12345) & (1<<31 - 1)
			s := all[x>>16%len(all)]
			next := m
			next.take(s)
			if len(row) < 55 && isFinal(next.state) {
				continue
			}
			m, row = next, append(row, s)
		}
		mustTakeAll(t, tries, preempts, row)
	}
}
