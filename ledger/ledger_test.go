package ledger_test

import (
	"math"
	"slices"
	"testing"

	"millwright/api"
	"millwright/ledger"
)

// held is an id that has a slot, with its memory.
type held struct{ id, mem, slot int }

// told is the promise once more: all that is known of a ledger.
type told struct {
	budget, slots int
	all           []held // in the order in which they came
}

func newTold(budget, slots int) *told {
	return &told{budget: max(budget, 0), slots: min(max(slots, 0), 16)}
}

func (m *told) used() int {
	used := 0
	for _, h := range m.all {
		used += h.mem
	}
	return used
}

func (m *told) ofID(id int) int {
	return slices.IndexFunc(m.all, func(h held) bool { return h.id == id })
}

func (m *told) ofSlot(slot int) int {
	return slices.IndexFunc(m.all, func(h held) bool { return h.slot == slot })
}

func (m *told) take(id, mem int) (int, api.Errno) {
	switch {
	case id < 0, mem < 0:
		return 0, api.ErrArg
	case mem > m.budget:
		return 0, api.ErrBig
	case m.ofID(id) >= 0:
		return 0, api.ErrState
	case len(m.all) == m.slots, mem > m.budget-m.used():
		return 0, api.ErrFull
	}
	slot := 0
	for m.ofSlot(slot) >= 0 {
		slot++
	}
	m.all = append(m.all, held{id, mem, slot})
	return slot, api.OK
}

func (m *told) free(id int) api.Errno {
	i := m.ofID(id)
	if i < 0 {
		return api.ErrNone
	}
	m.all = slices.Delete(m.all, i, i+1)
	return api.OK
}

// odd is numbers that are no slots, and mostly no ids.
func odd() []int {
	return []int{math.MinInt, -1 << 32, -17, -16, -2, -1, 16, 17, 99, 1 << 20, 1 << 32, math.MaxInt}
}

// mustBe asks a ledger for all that may be asked, twice, as asking changes nothing.
func mustBe(t *testing.T, l *ledger.Ledger, m *told) {
	t.Helper()
	for range 2 {
		got := [3]int{l.Used(), l.Room(), l.Slots()}
		want := [3]int{m.used(), m.budget - m.used(), m.slots - len(m.all)}
		if got != want {
			t.Errorf("Used, Room, Slots: %v, want %v", got, want)
		}
		if l.Used() < 0 || l.Used() > m.budget || l.Room() < 0 || l.Slots() < 0 {
			t.Errorf("Used, Room, Slots of %v: %v", m, got)
		}
		for n := range 20 {
			mustAsk(t, l, m, n)
		}
		for _, n := range odd() {
			mustAsk(t, l, m, n)
		}
		for _, h := range m.all {
			mustAsk(t, l, m, h.id)
		}
	}
}

// mustAsk asks of a number as of a slot and as of an id.
func mustAsk(t *testing.T, l *ledger.Ledger, m *told, n int) {
	wantID, wantSlot := 0, 0
	ofSlot, ofID := m.ofSlot(n), m.ofID(n)
	if ofSlot >= 0 {
		wantID = m.all[ofSlot].id
	}
	if ofID >= 0 {
		wantSlot = m.all[ofID].slot
	}
	if id, ok := l.At(n); id != wantID || ok != (ofSlot >= 0) {
		t.Errorf("At(%d) of %v: %d %v", n, m, id, ok)
	}
	if slot, ok := l.Slot(n); slot != wantSlot || ok != (ofID >= 0) {
		t.Errorf("Slot(%d) of %v: %d %v", n, m, slot, ok)
	}
}

// step is a call that may change a ledger.
type step struct {
	free    bool
	id, mem int
}

// mustDo does a step with a ledger, which must do as is told.
func mustDo(t *testing.T, l *ledger.Ledger, m *told, s step) {
	t.Helper()
	if s.free {
		if err, want := l.Free(s.id), m.free(s.id); err != want {
			t.Errorf("Free(%d): %v, want %v", s.id, err, want)
		}
	} else {
		wantSlot, want := m.take(s.id, s.mem)
		if slot, err := l.Take(s.id, s.mem); slot != wantSlot || err != want {
			t.Errorf("Take(%d, %d): %d %v, want %d %v", s.id, s.mem, slot, err, wantSlot, want)
		}
	}
	mustBe(t, l, m)
}

// mustDoAll does these steps with a new ledger.
func mustDoAll(t *testing.T, budget, slots int, row []step) {
	t.Helper()
	l, m := ledger.New(budget, slots), newTold(budget, slots)
	for i, s := range row {
		mustDo(t, l, m, s)
		if t.Failed() {
			t.Fatalf("budget %d, slots %d, step %d of %v", budget, slots, i, row)
		}
	}
}

// mustTake is a Take that must answer so.
func mustTake(t *testing.T, l *ledger.Ledger, id, mem, slot int, err api.Errno) {
	t.Helper()
	if gotSlot, gotErr := l.Take(id, mem); gotSlot != slot || gotErr != err {
		t.Errorf("Take(%d, %d): %d %v, want %d %v", id, mem, gotSlot, gotErr, slot, err)
	}
}

// mustFree is a Free that must answer so.
func mustFree(t *testing.T, l *ledger.Ledger, id int, want api.Errno) {
	t.Helper()
	if err := l.Free(id); err != want {
		t.Errorf("Free(%d): %v, want %v", id, err, want)
	}
}

// J1: the document's example.
func TestExample(t *testing.T) {
	l := ledger.New(10, 2)
	mustTake(t, l, 7, 6, 0, api.OK)
	mustTake(t, l, 8, 5, 0, api.ErrFull)
	mustTake(t, l, 8, 4, 1, api.OK)
	mustBe(t, l, &told{10, 2, []held{{7, 6, 0}, {8, 4, 1}}})
}

// J1: at first nobody has a slot; a budget below 0 is 0, slots below 0 are none, above 16 they are 16.
func TestNew(t *testing.T) {
	numbers := append(odd(), 0, 1, 2, 15)
	for _, budget := range numbers {
		for _, slots := range numbers {
			mustBe(t, ledger.New(budget, slots), newTold(budget, slots))
		}
	}
	for _, c := range []struct{ budget, slots, room, free int }{
		{math.MinInt, 3, 0, 3}, {-1, 3, 0, 3}, {0, 3, 0, 3}, {1, 3, 1, 3}, {math.MaxInt, 3, math.MaxInt, 3},
		{5, math.MinInt, 5, 0}, {5, -1, 5, 0}, {5, 0, 5, 0}, {5, 1, 5, 1}, {5, 15, 5, 15}, {5, 16, 5, 16}, {5, 17, 5, 16}, {5, math.MaxInt, 5, 16},
	} {
		l := ledger.New(c.budget, c.slots)
		if l.Used() != 0 || l.Room() != c.room || l.Slots() != c.free {
			t.Errorf("New(%d, %d): %d %d %d", c.budget, c.slots, l.Used(), l.Room(), l.Slots())
		}
	}
}

// J1: so many ids have a slot as there are slots, from 0 on, and one more finds it full.
func TestAllSlots(t *testing.T) {
	for slots := -2; slots <= 20; slots++ {
		l, m := ledger.New(1000, slots), newTold(1000, slots)
		many := min(max(slots, 0), 16)
		for i := range many {
			mustTake(t, l, 50-i, i, i, api.OK)
			m.take(50-i, i)
			mustBe(t, l, m)
		}
		mustTake(t, l, 51, 0, 0, api.ErrFull)
		mustTake(t, l, 51, 1000, 0, api.ErrFull)
		mustBe(t, l, m)
		for i := range many {
			mustFree(t, l, 50-i, api.OK)
			m.free(50 - i)
			mustBe(t, l, m)
		}
		mustBe(t, l, newTold(1000, slots))
	}
}

// J1: it is the lowest slot that nobody has, whatever slots were freed, and in whatever order.
func TestLowestSlot(t *testing.T) {
	for _, freed := range [][]int{{0}, {3}, {15}, {7, 2}, {2, 7}, {15, 0, 8}, {0, 1, 2}, {14, 13, 15}} {
		l := ledger.New(0, 16)
		for i := range 16 {
			mustTake(t, l, 100+i, 0, i, api.OK)
		}
		for _, slot := range freed {
			mustFree(t, l, 100+slot, api.OK)
		}
		for i, slot := range slices.Sorted(slices.Values(freed)) {
			mustTake(t, l, 200+i, 0, slot, api.OK)
		}
		mustTake(t, l, 300, 0, 0, api.ErrFull)
	}
}

// J1: memory up to the room fits, and no more; to have none is to have a slot all the same.
func TestRoom(t *testing.T) {
	for _, c := range []struct{ budget, first, second int }{
		{0, 0, 0}, {1, 1, 0}, {1, 0, 1}, {10, 6, 4}, {10, 10, 0}, {10, 0, 10}, {1 << 20, 1, 1<<20 - 1},
		{1 << 33, 1 << 32, 1 << 32}, {math.MaxInt, math.MaxInt, 0}, {math.MaxInt, 1, math.MaxInt - 1},
	} {
		l, m := ledger.New(c.budget, 3), newTold(c.budget, 3)
		for _, s := range []step{
			{id: 1, mem: c.first}, {id: 2, mem: c.second + 1}, {id: 2, mem: c.second}, {id: 3, mem: 1}, {id: 3, mem: c.budget},
			{id: 3}, {id: 4}, {free: true, id: 1}, {id: 1, mem: c.first}, {free: true, id: 2}, {id: 2, mem: c.second},
		} {
			mustDo(t, l, m, s)
		}
		if l.Room() != 0 || l.Used() != c.budget || l.Slots() != 0 {
			t.Errorf("%v: %d %d %d", c, l.Room(), l.Used(), l.Slots())
		}
	}
}

// J1: memory whose sum no int has is more than the room.
func TestHugeMemory(t *testing.T) {
	l := ledger.New(math.MaxInt, 16)
	mustTake(t, l, 1, math.MaxInt-1, 0, api.OK)
	mustTake(t, l, 2, math.MaxInt, 0, api.ErrFull)
	mustTake(t, l, 2, math.MaxInt-1, 0, api.ErrFull)
	mustTake(t, l, 2, 2, 0, api.ErrFull)
	mustTake(t, l, 2, 1, 1, api.OK)
	mustBe(t, l, &told{math.MaxInt, 16, []held{{1, math.MaxInt - 1, 0}, {2, 1, 1}}})
}

// J1: of several errors of Take the first one is told, and nothing is changed.
func TestTakeErrors(t *testing.T) {
	for i, c := range []struct {
		slots   int // id 5 has one, with 4 of 10
		id, mem int
		want    api.Errno
	}{
		{2, -1, 1, api.ErrArg}, {2, 6, -1, api.ErrArg}, {2, -1, -1, api.ErrArg}, {2, math.MinInt, 0, api.ErrArg}, {2, 6, math.MinInt, api.ErrArg},
		{2, -1, 11, api.ErrArg}, {2, 5, -1, api.ErrArg}, {1, -1, 7, api.ErrArg}, {1, 6, -1, api.ErrArg}, {1, -5, 11, api.ErrArg},
		{2, 6, 11, api.ErrBig}, {2, 6, math.MaxInt, api.ErrBig}, {2, 5, 11, api.ErrBig}, {1, 6, 11, api.ErrBig}, {1, 5, 11, api.ErrBig},
		{2, 5, 0, api.ErrState}, {2, 5, 4, api.ErrState}, {2, 5, 6, api.ErrState}, {2, 5, 7, api.ErrState}, {2, 5, 10, api.ErrState}, {1, 5, 0, api.ErrState}, {1, 5, 10, api.ErrState},
		{1, 6, 0, api.ErrFull}, {1, 6, 6, api.ErrFull}, {2, 6, 7, api.ErrFull}, {2, 6, 10, api.ErrFull}, {1, 6, 7, api.ErrFull}, {1, 0, 0, api.ErrFull},
	} {
		l := ledger.New(10, c.slots)
		mustTake(t, l, 5, 4, 0, api.OK)
		mustTake(t, l, c.id, c.mem, 0, c.want)
		mustBe(t, l, &told{10, c.slots, []held{{5, 4, 0}}})
		if t.Failed() {
			t.Fatalf("case %d", i)
		}
	}
}

// J1: the errors of Take, where there are no slots, or there is no budget.
func TestTakeOfNothing(t *testing.T) {
	for _, slots := range []int{-3, 0} {
		l := ledger.New(10, slots)
		mustTake(t, l, -1, 0, 0, api.ErrArg)
		mustTake(t, l, 0, -1, 0, api.ErrArg)
		mustTake(t, l, 0, 11, 0, api.ErrBig)
		mustTake(t, l, 0, 10, 0, api.ErrFull)
		mustTake(t, l, 0, 0, 0, api.ErrFull)
		mustFree(t, l, 0, api.ErrNone)
		mustBe(t, l, newTold(10, 0))
	}
	for _, budget := range []int{-3, 0} {
		l := ledger.New(budget, 2)
		mustTake(t, l, 0, -1, 0, api.ErrArg)
		mustTake(t, l, 0, -3, 0, api.ErrArg)
		mustTake(t, l, 0, 1, 0, api.ErrBig)
		mustTake(t, l, 0, 0, 0, api.OK)
		mustTake(t, l, 0, 1, 0, api.ErrBig)
		mustTake(t, l, 0, 0, 0, api.ErrState)
		mustTake(t, l, 1, 0, 1, api.OK)
		mustTake(t, l, 2, 0, 0, api.ErrFull)
		mustBe(t, l, &told{0, 2, []held{{0, 0, 0}, {1, 0, 1}}})
	}
}

// J1: an id is any number from 0 on, also one above all slots, and 0 is one like the others.
func TestIDs(t *testing.T) {
	l, m := ledger.New(100, 16), newTold(100, 16)
	for i, id := range []int{0, 1 << 20, math.MaxInt, 16, 1 << 32, 1<<32 + 16, 1, 99} {
		mustAsk(t, l, m, id)
		mustTake(t, l, id, i, i, api.OK)
		m.take(id, i)
		mustBe(t, l, m)
	}
	for _, id := range []int{math.MaxInt, 0, 1 << 32, 99} {
		mustDo(t, l, m, step{free: true, id: id})
		mustDo(t, l, m, step{free: true, id: id})
	}
}

// J1: Free is ErrNone of who has no slot, also of what is no id, and changes nothing then.
func TestFreeNone(t *testing.T) {
	l := ledger.New(10, 2)
	for _, id := range append(odd(), 0, 1) {
		mustFree(t, l, id, api.ErrNone)
		mustBe(t, l, newTold(10, 2))
	}
	mustTake(t, l, 3, 4, 0, api.OK)
	mustTake(t, l, 4, 5, 1, api.OK)
	mustFree(t, l, 3, api.OK)
	for _, id := range append(odd(), 0, 1, 3) { // 0 and 1 are slots only
		mustFree(t, l, id, api.ErrNone)
		mustBe(t, l, &told{10, 2, []held{{4, 5, 1}}})
	}
}

// J1: who was freed has nothing any more, may have another slot and other memory, and who stays keeps theirs.
func TestAgain(t *testing.T) {
	l := ledger.New(10, 3)
	mustTake(t, l, 3, 4, 0, api.OK)
	mustTake(t, l, 4, 5, 1, api.OK)
	mustFree(t, l, 3, api.OK)
	mustBe(t, l, &told{10, 3, []held{{4, 5, 1}}})
	mustTake(t, l, 9, 1, 0, api.OK)
	mustTake(t, l, 3, 2, 2, api.OK)
	mustBe(t, l, &told{10, 3, []held{{9, 1, 0}, {4, 5, 1}, {3, 2, 2}}})
	mustFree(t, l, 9, api.OK)
	mustFree(t, l, 4, api.OK)
	mustFree(t, l, 3, api.OK)
	mustBe(t, l, newTold(10, 3))
}

// R3: two ledgers have nothing to do with each other.
func TestTwoLedgers(t *testing.T) {
	a, b := ledger.New(10, 2), ledger.New(10, 2)
	mustTake(t, a, 1, 10, 0, api.OK)
	mustBe(t, b, newTold(10, 2))
	mustTake(t, b, 2, 3, 0, api.OK)
	mustTake(t, b, 1, 4, 1, api.OK)
	mustBe(t, a, &told{10, 2, []held{{1, 10, 0}}})
	mustFree(t, a, 1, api.OK)
	mustBe(t, b, &told{10, 2, []held{{2, 3, 0}, {1, 4, 1}}})
}

// J1: all rows of four steps of up to three ids, with little memory and few slots.
func TestAllShortRows(t *testing.T) {
	var all []step
	for id := -1; id < 3; id++ {
		all = append(all, step{free: true, id: id})
	}
	for id := range 3 {
		for mem := -1; mem < 4; mem += 2 - id%2 { // -1, 1, 3; of id 1 also 0 and 2
			all = append(all, step{id: id, mem: mem})
		}
	}
	for _, c := range []struct{ budget, slots int }{{0, 2}, {1, 1}, {2, 2}, {3, 0}, {3, 1}, {3, 2}, {3, 3}} {
		allRows(all, 4, nil, func(row []step) { mustDoAll(t, c.budget, c.slots, row) })
	}
}

// allRows does something with each row of so many more steps.
func allRows(all []step, more int, row []step, do func([]step)) {
	if more == 0 {
		do(row)
		return
	}
	for _, s := range all {
		allRows(all, more-1, append(slices.Clone(row), s), do)
	}
}

// J1: long rows, in ledgers of every number of slots, which are nearly full most of the time.
func TestLongRows(t *testing.T) {
	for seed := range 150 {
		slots, budget := seed%19-1, seed*7%90
		x, row := seed, []step{}
		next := func(n int) int {
			x = (x*1103515245 + 12345) & (1<<31 - 1)
			return x >> 16 % n
		}
		for range 150 {
			s := step{free: next(3) == 0, id: next(slots+5) - 1}
			if !s.free {
				s.mem = next(max(2, 2*budget/max(slots, 1))) - next(2)
			}
			row = append(row, s)
		}
		mustDoAll(t, budget, slots, row)
	}
}
