package victim_test

import (
	"math"
	"slices"
	"testing"

	"millwright/api"
	"millwright/victim"
)

// ask is what Choose is asked, beside the runs.
type ask struct{ prio, mem, free, slots, most int }

// within is a number within 0 and MaxNumber.
func within(mem int) int {
	switch {
	case mem < 0:
		return 0
	case mem > api.MaxNumber:
		return api.MaxNumber
	}
	return mem
}

// roomFor is whether there is room once these give back what they have.
func roomFor(q ask, stopped []victim.Run) bool {
	free := within(q.free)
	for _, run := range stopped {
		free += within(run.Mem)
	}
	return (q.slots >= 1 || len(stopped) >= 1) && within(q.mem) <= free
}

// ahead is whether a run at one place of a list is stopped ahead of the run at another one.
func ahead(l []victim.Run, i, j int) bool {
	a, b := l[i], l[j]
	if a.Prio != b.Prio {
		return a.Prio < b.Prio
	}
	if a.Since != b.Since {
		return a.Since > b.Since
	}
	if a.Task != b.Task {
		return a.Task > b.Task
	}
	return i < j
}

// inOrder is the victims, each at the place that is the number of those ahead of it.
func inOrder(l []victim.Run, q ask) []victim.Run {
	isOne := func(run victim.Run) bool { return run.Prio < q.prio && run.Preempts < q.most }
	many := 0
	for _, run := range l {
		if isOne(run) {
			many++
		}
	}
	all := make([]victim.Run, many)
	for i, run := range l {
		if !isOne(run) {
			continue
		}
		at := 0
		for j, other := range l {
			if isOne(other) && ahead(l, j, i) {
				at++
			}
		}
		all[at] = run
	}
	return all
}

// told is the promise once more: of all beginnings of the victims the shortest one that makes room.
func told(l []victim.Run, q ask) ([]int, bool) {
	all := inOrder(l, q)
	for many := range len(all) + 1 {
		if !roomFor(q, all[:many]) {
			continue
		}
		var tasks []int
		for _, run := range all[:many] {
			tasks = append(tasks, run.Task)
		}
		return tasks, true
	}
	return nil, false
}

// mustBe is a Choose that must answer so, twice (R4), and leave the runs as they were (R1).
func mustBe(t *testing.T, l []victim.Run, q ask, want []int, wantOK bool) {
	t.Helper()
	before := slices.Clone(l)
	for range 2 {
		got, ok := victim.Choose(l, q.prio, q.mem, q.free, q.slots, q.most)
		if !slices.Equal(got, want) || ok != wantOK {
			t.Errorf("%+v of %+v: %v %v, want %v %v", q, before, got, ok, want, wantOK)
		}
		if !slices.Equal(l, before) {
			t.Errorf("%+v: the runs are %+v, were %+v", q, l, before)
		}
	}
}

// mustDo is a Choose that must answer as is told.
func mustDo(t *testing.T, l []victim.Run, q ask) {
	t.Helper()
	want, ok := told(l, q)
	mustBe(t, l, q, want, ok)
}

// edges is numbers about the bounds of memories, and about those of all ints.
func edges() []int {
	return []int{math.MinInt, math.MinInt + 1, -1 << 32, -1, 0, 1, 2, api.MaxNumber - 1, api.MaxNumber, api.MaxNumber + 1, 1 << 32, math.MaxInt - 1, math.MaxInt}
}

// L1: the document's example.
func TestExample(t *testing.T) {
	l := []victim.Run{{Task: 7, Prio: 1}, {Task: 8, Prio: 2}}
	mustBe(t, l, ask{prio: 3, most: 1}, []int{7}, true)
	slices.Reverse(l)
	mustBe(t, l, ask{prio: 3, most: 1}, []int{7}, true)
}

// L1: nobody is stopped where there is room, whoever might be.
func TestRoom(t *testing.T) {
	l := []victim.Run{{Task: 7, Mem: 5}, {Task: 8, Mem: 5}}
	for _, runs := range [][]victim.Run{nil, {}, l} {
		for _, slots := range []int{1, 2, math.MaxInt} {
			mustBe(t, runs, ask{9, 4, 4, slots, 9}, nil, true)
			mustBe(t, runs, ask{9, 3, 4, slots, 9}, nil, true)
			mustBe(t, runs, ask{9, 0, 0, slots, 9}, nil, true)
		}
	}
}

// L1: who lacks a slot, or memory, or both, has others stopped.
func TestNoRoom(t *testing.T) {
	l := []victim.Run{{Task: 7, Mem: 5}}
	mustBe(t, l, ask{9, 5, 4, 1, 9}, []int{7}, true)
	mustBe(t, l, ask{9, 5, 5, 0, 9}, []int{7}, true)
	mustBe(t, l, ask{9, 0, 0, 0, 9}, []int{7}, true)
	mustBe(t, l, ask{9, 9, 4, 0, 9}, []int{7}, true)
	mustBe(t, l, ask{9, 10, 4, 0, 9}, nil, false)
	mustBe(t, l, ask{9, 10, 4, 1, 9}, nil, false)
	for _, none := range [][]victim.Run{nil, {}} {
		mustBe(t, none, ask{9, 5, 4, 1, 9}, nil, false)
		mustBe(t, none, ask{9, 5, 5, 0, 9}, nil, false)
		mustBe(t, none, ask{9, 0, 0, 0, 9}, nil, false)
	}
}

// L1: as few of the first ones as make room, not those that would be fewest; one with no memory is passed by nobody.
func TestAsFew(t *testing.T) {
	l := []victim.Run{{Task: 1, Prio: 1, Mem: 2}, {Task: 2, Prio: 2}, {Task: 3, Prio: 3, Mem: 3}, {Task: 4, Prio: 4, Mem: 100}}
	for mem, want := range [][]int{{1}, {1}, {1}, {1, 2, 3}, {1, 2, 3}, {1, 2, 3}, {1, 2, 3, 4}} {
		mustBe(t, l, ask{9, mem, 0, 0, 9}, want, true)
		mustBe(t, l, ask{9, mem + 2, 2, 0, 9}, want, true)
	}
	mustBe(t, l, ask{9, 105, 0, 1, 9}, []int{1, 2, 3, 4}, true)
	mustBe(t, l, ask{9, 106, 0, 1, 9}, nil, false)
	mustBe(t, l, ask{4, 6, 0, 1, 9}, nil, false)
}

// L1: only who is below the priority is stopped, and not who is like it.
func TestPrio(t *testing.T) {
	for _, mine := range edges() {
		for _, theirs := range edges() {
			l := []victim.Run{{Task: 7, Prio: theirs, Mem: 5}}
			if theirs < mine {
				mustBe(t, l, ask{mine, 5, 0, 0, 1}, []int{7}, true)
			} else {
				mustBe(t, l, ask{mine, 5, 0, 0, 1}, nil, false)
			}
		}
	}
}

// L1: only who was stopped less often than they may be is stopped, and not who was as often.
func TestMost(t *testing.T) {
	for _, most := range edges() {
		for _, was := range edges() {
			l := []victim.Run{{Task: 7, Preempts: was, Mem: 5}}
			if was < most {
				mustBe(t, l, ask{1, 5, 0, 0, most}, []int{7}, true)
			} else {
				mustBe(t, l, ask{1, 5, 0, 0, most}, nil, false)
			}
		}
	}
}

// L1: by rising Prio, whatever else they are.
func TestByPrio(t *testing.T) {
	l := []victim.Run{
		{Task: 9, Prio: 2, Mem: 1, Since: 9},
		{Task: 5, Prio: 0, Mem: 1, Since: 5},
		{Task: 1, Prio: -1, Mem: 1, Since: 1},
		{Task: 8, Prio: math.MaxInt - 1, Mem: 1, Since: 8},
		{Task: 2, Prio: math.MinInt, Mem: 1, Since: 2},
	}
	for many := 1; many <= 5; many++ {
		mustBe(t, l, ask{math.MaxInt, many, 0, 0, 1}, []int{2, 1, 5, 9, 8}[:many], true)
	}
}

// L1: those of one Prio by falling Since, whatever else they are.
func TestBySince(t *testing.T) {
	l := []victim.Run{
		{Task: 9, Prio: 3, Mem: 1, Since: 2},
		{Task: 5, Prio: 3, Mem: 1, Since: math.MaxInt},
		{Task: 1, Prio: 3, Mem: 1, Since: 3},
		{Task: 8, Prio: 3, Mem: 1, Since: math.MinInt},
		{Task: 2, Prio: 3, Mem: 1, Since: -1},
	}
	for many := 1; many <= 5; many++ {
		mustBe(t, l, ask{4, many, 0, 0, 1}, []int{5, 1, 9, 2, 8}[:many], true)
	}
}

// L1: those of one Prio and one Since by falling Task, whatever else they are.
func TestByTask(t *testing.T) {
	l := []victim.Run{
		{Task: 2, Mem: 1, Preempts: 3},
		{Task: math.MaxInt, Mem: 1},
		{Task: 3, Mem: 1, Preempts: 1},
		{Task: math.MinInt, Mem: 1, Preempts: 2},
		{Task: -1, Mem: 1},
	}
	for many := 1; many <= 5; many++ {
		mustBe(t, l, ask{1, many, 0, 0, 4}, []int{math.MaxInt, 3, 2, -1, math.MinInt}[:many], true)
	}
}

// L1: those of one Prio, Since and Task as they stand, also if they are many; the memory tells which one went first.
func TestAsTheyStand(t *testing.T) {
	mustBe(t, []victim.Run{{Task: 5, Mem: 1}, {Task: 5, Mem: 9}}, ask{1, 9, 0, 0, 1}, []int{5, 5}, true)
	mustBe(t, []victim.Run{{Task: 5, Mem: 9}, {Task: 5, Mem: 1}}, ask{1, 9, 0, 0, 1}, []int{5}, true)
	const all = 200
	for at := range all {
		l := make([]victim.Run, all)
		for i := range l {
			l[i] = victim.Run{Task: 5, Prio: 3, Since: 4, Preempts: i % 2}
		}
		l[at].Mem = 1
		mustBe(t, l, ask{4, 1, 0, 0, 2}, slices.Repeat([]int{5}, at+1), true)
	}
}

// L1: a memory below 0 is as 0, one above MaxNumber as that: of the one that comes, of what is free, and of a run.
func TestMemories(t *testing.T) {
	const most = api.MaxNumber
	mustBe(t, nil, ask{9, -1, -1, 1, 9}, nil, true)
	mustBe(t, nil, ask{9, 0, math.MinInt, 1, 9}, nil, true)
	mustBe(t, nil, ask{9, 1, -1, 1, 9}, nil, false)
	mustBe(t, nil, ask{9, math.MinInt, 0, 1, 9}, nil, true)
	mustBe(t, nil, ask{9, math.MaxInt, most, 1, 9}, nil, true)
	mustBe(t, nil, ask{9, most + 1, most, 1, 9}, nil, true)
	mustBe(t, nil, ask{9, most + 1, most - 1, 1, 9}, nil, false)
	mustBe(t, nil, ask{9, most, math.MaxInt, 1, 9}, nil, true)
	low := []victim.Run{{Task: 7, Mem: -5}, {Task: 6, Mem: math.MinInt}, {Task: 5, Mem: 3}}
	mustBe(t, low, ask{9, 3, 0, 0, 9}, []int{7, 6, 5}, true)
	mustBe(t, low, ask{9, 3, -3, 0, 9}, []int{7, 6, 5}, true)
	mustBe(t, low, ask{9, 4, 1, 1, 9}, []int{7, 6, 5}, true)
	mustBe(t, low, ask{9, 4, 0, 0, 9}, nil, false)
	high := []victim.Run{{Task: 7, Mem: math.MaxInt}, {Task: 6, Mem: math.MaxInt}}
	mustBe(t, high, ask{9, math.MaxInt, 0, 0, 9}, []int{7}, true)
	mustBe(t, high, ask{9, most, 1, 0, 9}, []int{7}, true)
	mustBe(t, high, ask{9, math.MaxInt, math.MaxInt, 0, 9}, []int{7}, true)
	mustBe(t, high, ask{9, math.MaxInt, most - 1, 1, 9}, []int{7}, true)
}

// L1: memories at all edges, of the one that comes, of what is free, and of two runs, with and without a slot.
func TestAllMemories(t *testing.T) {
	for _, mem := range edges() {
		for _, free := range edges() {
			for _, first := range edges() {
				for _, second := range edges() {
					l := []victim.Run{{Task: 7, Mem: first}, {Task: 6, Mem: second}}
					mustDo(t, l, ask{9, mem, free, 0, 9})
					mustDo(t, l, ask{9, mem, free, 1, 9})
				}
			}
		}
	}
}

// L1: slots below 0 are as 0: the first victim makes room, if memory is enough; and no number of them is too large.
func TestSlots(t *testing.T) {
	l := []victim.Run{{Task: 7, Mem: 1}, {Task: 6, Mem: 1}}
	for _, slots := range []int{math.MinInt, math.MinInt + 1, -1 << 32, -4, -1, 0} {
		mustBe(t, l, ask{9, 0, 0, slots, 9}, []int{7}, true)
		mustBe(t, l, ask{9, 2, 1, slots, 9}, []int{7}, true)
		mustBe(t, l, ask{9, 2, 0, slots, 9}, []int{7, 6}, true)
		mustBe(t, nil, ask{9, 0, 0, slots, 9}, nil, false)
	}
	for _, slots := range []int{1, 2, 16, 1 << 32, math.MaxInt - 1, math.MaxInt} {
		mustBe(t, l, ask{9, 0, 0, slots, 9}, nil, true)
		mustBe(t, l, ask{9, 1, 0, slots, 9}, []int{7}, true)
		mustBe(t, l, ask{9, 2, 0, slots, 9}, []int{7, 6}, true)
		mustBe(t, l, ask{9, 3, 0, slots, 9}, nil, false)
	}
}

// R1: the answer is the caller's, and the runs may be written over: a later answer hangs on neither.
func TestAnswerIsTheCallers(t *testing.T) {
	l := []victim.Run{{Task: 7, Mem: 1}, {Task: 6, Mem: 1}, {Task: 5, Mem: 1}}
	first, _ := victim.Choose(l, 9, 2, 0, 0, 9)
	second, _ := victim.Choose(l, 9, 2, 0, 0, 9)
	clear(l)
	if !slices.Equal(first, []int{7, 6}) {
		t.Errorf("%v", first)
	}
	first = append(first, 99)
	clear(first[:cap(first)])
	if !slices.Equal(second, []int{7, 6}) {
		t.Errorf("%v", second)
	}
	mustBe(t, []victim.Run{{Task: 7, Mem: 1}, {Task: 6, Mem: 1}}, ask{9, 2, 0, 0, 9}, []int{7, 6}, true)
}

// R1: what lies behind a list's end is not written over either.
func TestBehindTheList(t *testing.T) {
	whole := []victim.Run{{Task: 7, Mem: 1}, {Task: 6, Mem: 1}, {Task: 99, Prio: -1, Mem: 99}}
	mustBe(t, whole[:2], ask{9, 2, 0, 0, 9}, []int{7, 6}, true)
	mustBe(t, whole[:2], ask{9, 3, 0, 0, 9}, nil, false)
	if (whole[2] != victim.Run{Task: 99, Prio: -1, Mem: 99}) {
		t.Errorf("%v", whole[2])
	}
}

// L1: all rows of three of some runs, for all of some that come.
func TestAllShortRows(t *testing.T) {
	var all []victim.Run
	for n := range 48 {
		all = append(all, victim.Run{Task: n % 2, Prio: n / 2 % 2, Mem: n / 4 % 3, Preempts: n / 12 % 2, Since: n / 24})
	}
	asks := []ask{{1, 1, 0, 1, 2}, {2, 2, 0, 0, 1}, {2, 3, 0, 1, 2}, {2, 4, 1, 0, 2}, {2, 0, 0, 0, 2}}
	for _, a := range all {
		for _, b := range all {
			for _, c := range all {
				for _, q := range asks {
					mustDo(t, []victim.Run{a, b, c}, q)
				}
			}
			if t.Failed() {
				t.FailNow()
			}
		}
	}
}

// L1: long rows, of many that are alike and of few.
func TestLongRows(t *testing.T) {
	for seed := range 1500 {
		x := seed
		next := func(n int) int {
			x = (x*1103515245 + 12345) & (1<<31 - 1)
			return x >> 16 % n
		}
		wide := 1 + seed%7
		l := make([]victim.Run, next(60))
		sum := 0
		for i := range l {
			l[i] = victim.Run{Task: next(3 * wide), Prio: next(8), Mem: next(20) - 2, Preempts: next(4), Since: next(wide)}
			sum += max(l[i].Mem, 0)
		}
		mustDo(t, l, ask{next(9), next(sum + 5), next(10) - 2, next(3) - 1, next(5)})
	}
}

// L1: a row as long as any of which something is promised, all alike.
func TestLongestRow(t *testing.T) {
	l := make([]victim.Run, 1000000)
	for i := range l {
		l[i] = victim.Run{Task: i % 1000, Prio: i % 7, Mem: api.MaxNumber, Preempts: 1, Since: i % 13}
	}
	if got, ok := victim.Choose(l, 7, 1, 0, 0, 1); len(got) != 0 || ok {
		t.Errorf("%d %v", len(got), ok)
	}
	l[777777].Preempts = 0
	mustBe(t, l, ask{7, api.MaxNumber, 0, 0, 1}, []int{777}, true)
}
