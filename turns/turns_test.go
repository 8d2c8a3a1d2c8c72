package turns_test

import (
	"math"
	"slices"
	"testing"

	"millwright/api"
	"millwright/turns"
)

// most is the greatest quantum, and the greatest cost.
const most = 1 << 20

// sitter is a member, as the promise tells of it.
type sitter struct{ id, weight, credit int }

// told is the promise once more: a round that is gone through step by step.
type told struct {
	quantum int
	all     []sitter // as they joined
	whose   int      // the id of whose turn it is, if there are any
}

func newTold(quantum int) *told {
	switch {
	case quantum < 1:
		quantum = 1
	case quantum > most:
		quantum = most
	}
	return &told{quantum: quantum}
}

// at is where an id stands, -1 if it is no member.
func (m *told) at(id int) int {
	for i, s := range m.all {
		if s.id == id {
			return i
		}
	}
	return -1
}

// next is the id behind another one's.
func (m *told) next(id int) int { return m.all[(m.at(id)+1)%len(m.all)].id }

func (m *told) join(id, weight int) api.Errno {
	if weight < 1 || weight > 100 {
		return api.ErrArg
	}
	if m.at(id) >= 0 {
		return api.ErrState
	}
	m.all = append(m.all, sitter{id: id, weight: weight})
	if len(m.all) == 1 {
		m.whose = id
	}
	return api.OK
}

func (m *told) leave(id int) api.Errno {
	at := m.at(id)
	if at < 0 {
		return api.ErrNone
	}
	if m.whose == id {
		m.whose = m.next(id)
	}
	m.all = slices.Delete(m.all, at, at+1)
	return api.OK
}

// cost is what an id wants: that of its first want that counts, and whether there is one.
func (m *told) cost(l []turns.Want, id int) (int, bool) {
	for _, w := range l {
		if w.ID == id && w.Cost >= 1 && w.Cost <= most {
			return w.Cost, true
		}
	}
	return 0, false
}

func (m *told) take(l []turns.Want) (int, bool) {
	costs, wants, some := make([]int, len(m.all)), make([]bool, len(m.all)), false
	for i, s := range m.all {
		costs[i], wants[i] = m.cost(l, s.id)
		some = some || wants[i]
	}
	if !some {
		return 0, false
	}
	for at := m.at(m.whose); ; {
		s := &m.all[at]
		if wants[at] && s.credit >= costs[at] {
			s.credit -= costs[at]
			m.whose = s.id
			return s.id, true
		}
		if !wants[at] {
			s.credit = 0
		}
		at = (at + 1) % len(m.all)
		if wants[at] {
			m.all[at].credit += m.quantum * m.all[at].weight
		}
	}
}

// odd is numbers that are mostly no members.
func odd() []int {
	return []int{math.MinInt, -1 << 32, -3, -2, -1, 0, 1, 2, 63, 64, 99, most, most + 1, 1 << 32, math.MaxInt}
}

// mustBe asks turns for all that may be asked, twice, as asking changes nothing.
func mustBe(t *testing.T, x *turns.Turns, m *told) {
	t.Helper()
	for range 2 {
		if x.Len() != len(m.all) {
			t.Errorf("Len: %d, want %d", x.Len(), len(m.all))
		}
		want := 0
		if len(m.all) > 0 {
			want = m.whose
		}
		if id, ok := x.Turn(); id != want || ok != (len(m.all) > 0) {
			t.Errorf("Turn of %v: %d %v", m, id, ok)
		}
		for _, s := range m.all {
			mustAsk(t, x, m, s.id)
		}
		for id := range 8 {
			mustAsk(t, x, m, id)
		}
		for _, id := range odd() {
			mustAsk(t, x, m, id)
		}
	}
}

// mustAsk asks for the credit of an id, be it a member or none.
func mustAsk(t *testing.T, x *turns.Turns, m *told, id int) {
	want, at := 0, m.at(id)
	if at >= 0 {
		want = m.all[at].credit
	}
	if credit, ok := x.Credit(id); credit != want || ok != (at >= 0) {
		t.Errorf("Credit(%d) of %v: %d %v", id, m, credit, ok)
	}
}

// mustCredit is a Credit that must answer so.
func mustCredit(t *testing.T, x *turns.Turns, id, want int, wantOK bool) {
	t.Helper()
	if credit, ok := x.Credit(id); credit != want || ok != wantOK {
		t.Errorf("Credit(%d): %d %v, want %d %v", id, credit, ok, want, wantOK)
	}
}

// mustTurn is a Turn that must answer so.
func mustTurn(t *testing.T, x *turns.Turns, want int) {
	t.Helper()
	if id, ok := x.Turn(); id != want || !ok {
		t.Errorf("Turn: %d %v, want %d", id, ok, want)
	}
}

// mustJoin is a Join that must answer so.
func mustJoin(t *testing.T, x *turns.Turns, id, weight int, want api.Errno) {
	t.Helper()
	if err := x.Join(id, weight); err != want {
		t.Errorf("Join(%d, %d): %v, want %v", id, weight, err, want)
	}
}

// mustLeave is a Leave that must answer so.
func mustLeave(t *testing.T, x *turns.Turns, id int, want api.Errno) {
	t.Helper()
	if err := x.Leave(id); err != want {
		t.Errorf("Leave(%d): %v, want %v", id, err, want)
	}
}

// mustTake is a Take that somebody answers to, and that leaves its list as it was (R1).
func mustTake(t *testing.T, x *turns.Turns, want int, l ...turns.Want) {
	t.Helper()
	before := slices.Clone(l)
	if id, ok := x.Take(l); id != want || !ok {
		t.Errorf("Take(%v): %d %v, want %d", before, id, ok, want)
	}
	if !slices.Equal(l, before) {
		t.Errorf("Take: the list is %v, was %v", l, before)
	}
}

// mustNotTake is a Take that nobody answers to.
func mustNotTake(t *testing.T, x *turns.Turns, l ...turns.Want) {
	t.Helper()
	if id, ok := x.Take(l); id != 0 || ok {
		t.Errorf("Take(%v): %d %v", l, id, ok)
	}
}

// The kinds of steps.
const (
	join = iota
	leave
	take
)

// step is a call that may change turns.
type step struct {
	kind, id, weight int
	wants            []turns.Want
}

// mustDo does a step with turns, which must do as is told.
func mustDo(t *testing.T, x *turns.Turns, m *told, s step) {
	t.Helper()
	switch s.kind {
	case join:
		mustJoin(t, x, s.id, s.weight, m.join(s.id, s.weight))
	case leave:
		mustLeave(t, x, s.id, m.leave(s.id))
	case take:
		if id, ok := m.take(s.wants); ok {
			mustTake(t, x, id, s.wants...)
		} else {
			mustNotTake(t, x, s.wants...)
		}
	}
	mustBe(t, x, m)
}

// mustDoAll does these steps with new turns.
func mustDoAll(t *testing.T, quantum int, row []step) {
	t.Helper()
	x, m := turns.New(quantum), newTold(quantum)
	for i, s := range row {
		mustDo(t, x, m, s)
		if t.Failed() {
			t.Fatalf("quantum %d, step %d of %v", quantum, i, row)
		}
	}
}

// of is turns of this quantum that the ids 1, 2 and so on have joined with these weights.
func of(t *testing.T, quantum int, weights ...int) *turns.Turns {
	t.Helper()
	x := turns.New(quantum)
	for i, weight := range weights {
		mustJoin(t, x, i+1, weight, api.OK)
	}
	return x
}

// N2: the document's example.
func TestExample(t *testing.T) {
	x := of(t, 5, 1, 1)
	l := []turns.Want{{ID: 1, Cost: 10}, {ID: 2, Cost: 10}}
	mustTake(t, x, 2, l...)
	mustTurn(t, x, 2)
	mustCredit(t, x, 1, 5, true)
	mustCredit(t, x, 2, 0, true)
	mustTake(t, x, 1, l...)
	mustTake(t, x, 2, l...)
}

// N1: new turns have nobody, and nobody's turn it is, whatever the quantum.
func TestNobody(t *testing.T) {
	for _, quantum := range odd() {
		x := turns.New(quantum)
		mustBe(t, x, newTold(quantum))
		mustLeave(t, x, 0, api.ErrNone)
		mustNotTake(t, x)
		mustNotTake(t, x, turns.Want{ID: 0, Cost: 1})
		mustBe(t, x, newTold(quantum))
	}
}

// N1: a quantum below 1 is 1, one above 2^20 is that; what a turn brings is it times the weight.
func TestQuantum(t *testing.T) {
	for _, c := range []struct{ quantum, want int }{
		{math.MinInt, 1}, {-1 << 32, 1}, {-1, 1}, {0, 1}, {1, 1}, {2, 2}, {5, 5}, {1000, 1000},
		{most - 1, most - 1}, {most, most}, {most + 1, most}, {1 << 32, most}, {1<<32 + 5, most}, {math.MaxInt, most},
	} {
		for _, weight := range []int{1, 2, 3, 99, 100} {
			x := of(t, c.quantum, 1, weight)
			mustTake(t, x, 2, turns.Want{ID: 2, Cost: 1})
			mustCredit(t, x, 2, c.want*weight-1, true)
			mustCredit(t, x, 1, 0, true)
			mustTurn(t, x, 2)
		}
	}
}

// N1: a weight is from 1 to 100; of other weights, and of members, Join is an error that changes nothing.
func TestJoin(t *testing.T) {
	x, m := turns.New(5), newTold(5)
	for _, id := range []int{7, -7, 0, math.MaxInt, math.MinInt} {
		for _, weight := range []int{math.MinInt, -1, 0, 101, 102, 1<<32 + 1, math.MaxInt} {
			mustJoin(t, x, id, weight, api.ErrArg)
			mustBe(t, x, m)
		}
		mustDo(t, x, m, step{kind: join, id: id, weight: 50})
		for _, weight := range []int{math.MinInt, -1, 0, 101, math.MaxInt} {
			mustJoin(t, x, id, weight, api.ErrArg) // also of a member
			mustBe(t, x, m)
		}
		for _, weight := range []int{1, 49, 50, 51, 100} {
			mustJoin(t, x, id, weight, api.ErrState)
			mustBe(t, x, m)
		}
		mustTurn(t, x, 7)
	}
	mustJoin(t, x, 1, 1, api.OK)
	mustJoin(t, x, 2, 100, api.OK)
	if x.Len() != 7 {
		t.Error(x.Len())
	}
}

// N1: a Join that is an error leaves a member its weight.
func TestJoinTwiceKeepsWeight(t *testing.T) {
	x := of(t, 5, 1, 3)
	mustJoin(t, x, 2, 7, api.ErrState)
	mustTake(t, x, 2, turns.Want{ID: 2, Cost: 1})
	mustCredit(t, x, 2, 14, true)
}

// N1: who joins is the last one of the round as it was joined, not the one behind whose turn it is.
func TestJoinIsLast(t *testing.T) {
	x := of(t, 1, 1, 1, 1)
	mustTake(t, x, 2, turns.Want{ID: 2, Cost: 1})
	mustJoin(t, x, 4, 1, api.OK)
	mustTurn(t, x, 2)
	all := []turns.Want{{ID: 1, Cost: 1}, {ID: 2, Cost: 1}, {ID: 3, Cost: 1}, {ID: 4, Cost: 1}}
	for _, want := range []int{3, 4, 1, 2, 3, 4, 1} {
		mustTake(t, x, want, all...)
	}
}

// N1: who leaves is none any more; the turn is the next one's, if it was theirs, and else stays; it brings no credit.
func TestLeave(t *testing.T) {
	for turn := 1; turn <= 4; turn++ {
		for who := 1; who <= 4; who++ {
			x := of(t, 10, 1, 1, 1, 1)
			mustTake(t, x, turn, turns.Want{ID: turn, Cost: 3})
			mustLeave(t, x, who, api.OK)
			want, rest := turn, 7
			if who == turn {
				want, rest = turn%4+1, 0
			}
			mustTurn(t, x, want)
			mustCredit(t, x, want, rest, true)
			mustCredit(t, x, who, 0, false)
			mustLeave(t, x, who, api.ErrNone)
			mustTurn(t, x, want)
			if x.Len() != 3 {
				t.Errorf("%d left %d: %d", who, turn, x.Len())
			}
		}
	}
}

// N1: of who is no member Leave is an error that changes nothing.
func TestLeaveNone(t *testing.T) {
	x, m := turns.New(5), newTold(5)
	mustDo(t, x, m, step{kind: join, id: 7, weight: 2})
	mustDo(t, x, m, step{kind: join, id: 8, weight: 3})
	for _, id := range odd() {
		mustLeave(t, x, id, api.ErrNone)
		mustBe(t, x, m)
	}
}

// N1: when all have left, whoever joins is the only one, and it is their turn; who comes again begins anew, and last.
func TestLeaveAndJoinAgain(t *testing.T) {
	x := of(t, 10, 1, 1)
	mustTake(t, x, 2, turns.Want{ID: 1, Cost: 20}, turns.Want{ID: 2, Cost: 3})
	mustLeave(t, x, 2, api.OK)
	mustTurn(t, x, 1)
	mustJoin(t, x, 2, 1, api.OK)
	mustTurn(t, x, 1)
	mustCredit(t, x, 2, 0, true)
	mustLeave(t, x, 1, api.OK)
	mustTurn(t, x, 2)
	mustLeave(t, x, 2, api.OK)
	mustBe(t, x, newTold(10))
	mustJoin(t, x, 1, 1, api.OK)
	mustTurn(t, x, 1)
	mustCredit(t, x, 1, 0, true)
	mustJoin(t, x, 2, 1, api.OK)
	mustTurn(t, x, 1)
}

// N2: whose turn it is keeps it as long as the credit is enough, also to the last of it.
func TestStays(t *testing.T) {
	x := of(t, 10, 1, 1)
	l := []turns.Want{{ID: 1, Cost: 4}, {ID: 2, Cost: 5}}
	for i, c := range []struct{ want, first, second int }{{2, 0, 5}, {2, 0, 0}, {1, 6, 0}, {1, 2, 0}, {2, 2, 5}, {2, 2, 0}, {1, 8, 0}, {1, 4, 0}, {1, 0, 0}, {2, 0, 5}} {
		mustTake(t, x, c.want, l...)
		mustTurn(t, x, c.want)
		mustCredit(t, x, 1, c.first, true)
		mustCredit(t, x, 2, c.second, true)
		if t.Failed() {
			t.Fatalf("take %d", i)
		}
	}
}

// N2: credit that is one short is not enough, and is kept.
func TestOneShort(t *testing.T) {
	x := of(t, 10, 1, 1)
	mustTake(t, x, 2, turns.Want{ID: 1, Cost: 1}, turns.Want{ID: 2, Cost: 10})
	x = of(t, 10, 1, 1)
	mustTake(t, x, 1, turns.Want{ID: 1, Cost: 1}, turns.Want{ID: 2, Cost: 11})
	mustCredit(t, x, 1, 9, true)
	mustCredit(t, x, 2, 10, true)
	mustTake(t, x, 2, turns.Want{ID: 1, Cost: 10}, turns.Want{ID: 2, Cost: 20})
	mustCredit(t, x, 1, 9, true)
	mustCredit(t, x, 2, 0, true)
}

// N2: who does not want loses their credit, but only when the turn goes on from them, and gains none.
func TestWantsNothing(t *testing.T) {
	start := func() *turns.Turns { // credits 0, 9, 10, 0: it is the turn of 2
		x := of(t, 10, 1, 1, 1, 1)
		mustTake(t, x, 3, turns.Want{ID: 3, Cost: 10})
		mustTake(t, x, 2, turns.Want{ID: 3, Cost: 11}, turns.Want{ID: 2, Cost: 10})
		mustTake(t, x, 2, turns.Want{ID: 3, Cost: 30}, turns.Want{ID: 2, Cost: 1})
		return x
	}
	for i, c := range []struct {
		wants   []turns.Want
		who     int
		credits []int
	}{
		{[]turns.Want{{ID: 2, Cost: 9}}, 2, []int{0, 0, 10, 0}},
		{[]turns.Want{{ID: 2, Cost: 10}}, 2, []int{0, 9, 0, 0}},
		{[]turns.Want{{ID: 3, Cost: 1}}, 3, []int{0, 0, 19, 0}},
		{[]turns.Want{{ID: 3, Cost: 20}}, 3, []int{0, 0, 0, 0}},
		{[]turns.Want{{ID: 3, Cost: 21}}, 3, []int{0, 0, 9, 0}},
		{[]turns.Want{{ID: 4, Cost: 1}}, 4, []int{0, 0, 0, 9}},
		{[]turns.Want{{ID: 4, Cost: 10}, {ID: 3, Cost: 21}}, 4, []int{0, 0, 20, 0}},
		{[]turns.Want{{ID: 1, Cost: 1}}, 1, []int{9, 0, 0, 0}},
		{[]turns.Want{{ID: 1, Cost: 21}}, 1, []int{9, 0, 0, 0}},
		{[]turns.Want{{ID: 1, Cost: 1}, {ID: 2, Cost: 10}}, 1, []int{9, 9, 0, 0}},
		{[]turns.Want{{ID: 1, Cost: 11}, {ID: 2, Cost: 19}}, 2, []int{10, 0, 0, 0}},
	} {
		x := start()
		for id, credit := range []int{0, 9, 10, 0} {
			mustCredit(t, x, id+1, credit, true)
		}
		mustTurn(t, x, 2)
		mustTake(t, x, c.who, c.wants...)
		mustTurn(t, x, c.who)
		for id, credit := range c.credits {
			mustCredit(t, x, id+1, credit, true)
		}
		if t.Failed() {
			t.Fatalf("case %d", i)
		}
	}
}

// N2: wants of who is no member, and of costs that may not be, do not count; without others nothing is changed.
func TestNoWants(t *testing.T) {
	x, m := turns.New(10), newTold(10)
	for _, s := range []step{{kind: join, id: 7, weight: 2}, {kind: join, id: 8, weight: 3}, {kind: take, wants: []turns.Want{{ID: 7, Cost: 50}, {ID: 8, Cost: 10}}}} {
		mustDo(t, x, m, s)
	}
	mustNotTake(t, x)
	mustBe(t, x, m)
	for _, cost := range []int{math.MinInt, -1 << 32, -1, 0, most + 1, 1 << 32, 1<<32 + 1, math.MaxInt} {
		mustNotTake(t, x, turns.Want{ID: 7, Cost: cost}, turns.Want{ID: 8, Cost: cost})
		mustBe(t, x, m)
	}
	for _, id := range odd() {
		mustNotTake(t, x, turns.Want{ID: id, Cost: 1}, turns.Want{ID: 8, Cost: 0})
		mustBe(t, x, m)
	}
	mustLeave(t, x, 8, api.OK)
	m.leave(8)
	mustNotTake(t, x, turns.Want{ID: 8, Cost: 1})
	mustBe(t, x, m)
}

// N2: of one id the first want that counts is the one; those that do not count are as if they were not there.
func TestFirstWant(t *testing.T) {
	for i, c := range []struct {
		wants []turns.Want
		cost  int
	}{
		{[]turns.Want{{ID: 2, Cost: 3}, {ID: 2, Cost: 5}}, 3},
		{[]turns.Want{{ID: 2, Cost: 5}, {ID: 2, Cost: 3}}, 5},
		{[]turns.Want{{ID: 2, Cost: 0}, {ID: 2, Cost: 3}, {ID: 2, Cost: 1}}, 3},
		{[]turns.Want{{ID: 2, Cost: most + 1}, {ID: 2, Cost: -4}, {ID: 2, Cost: 3}}, 3},
		{[]turns.Want{{ID: 9, Cost: 1}, {ID: 2, Cost: 3}, {ID: 1, Cost: 0}, {ID: 2, Cost: 0}}, 3},
		{[]turns.Want{{ID: 2, Cost: 3}, {ID: 2, Cost: most + 1}}, 3},
	} {
		x := of(t, 10, 1, 1)
		mustTake(t, x, 2, c.wants...)
		mustCredit(t, x, 2, 10-c.cost, true)
		if t.Failed() {
			t.Fatalf("case %d", i)
		}
	}
}

// N2: whose turn it is, not who stands first in the list.
func TestOrderOfWants(t *testing.T) {
	l := []turns.Want{{ID: 1, Cost: 5}, {ID: 2, Cost: 5}, {ID: 3, Cost: 5}}
	for range 3 {
		x := of(t, 5, 1, 1, 1)
		for _, want := range []int{2, 3, 1, 2, 3, 1} {
			mustTake(t, x, want, l...)
		}
		l = append(l[1:], l[0])
		slices.Reverse(l)
	}
}

// N2: a member alone goes round to itself, and gains each time.
func TestAlone(t *testing.T) {
	x := of(t, 3, 2)
	mustTake(t, x, 1, turns.Want{ID: 1, Cost: 1})
	mustCredit(t, x, 1, 5, true)
	mustTake(t, x, 1, turns.Want{ID: 1, Cost: 5})
	mustCredit(t, x, 1, 0, true)
	mustTake(t, x, 1, turns.Want{ID: 1, Cost: 6})
	mustCredit(t, x, 1, 0, true)
	mustTake(t, x, 1, turns.Want{ID: 1, Cost: 7})
	mustCredit(t, x, 1, 5, true)
	mustTake(t, x, 1, turns.Want{ID: 1, Cost: most})
	mustCredit(t, x, 1, 5+6*((most-5+5)/6)-most, true)
}

// N2: the bounds of a cost, of a quantum and of a weight, among few members.
func TestBounds(t *testing.T) {
	for _, quantum := range []int{1, 2, most - 1, most} {
		for _, weights := range [][]int{{1}, {100}, {1, 1}, {1, 100}, {100, 1}, {99, 100, 1}} {
			var row []step
			for i, weight := range weights {
				row = append(row, step{kind: join, id: i, weight: weight})
			}
			for _, cost := range []int{most, 1, most - 1, most, 2} {
				var same, apart []turns.Want
				for i := range weights {
					same = append(same, turns.Want{ID: i, Cost: cost})
					apart = append(apart, turns.Want{ID: i, Cost: cost - i})
				}
				row = append(row, step{kind: take, wants: same}, step{kind: take, wants: apart}, step{kind: take, wants: same[:1]})
			}
			mustDoAll(t, quantum, row)
		}
	}
}

// N2: a take ends soon also where by single steps there would be a thousand million of them.
func TestManyRounds(t *testing.T) {
	const many = 1000
	x := turns.New(1)
	var l []turns.Want
	for id := range many {
		mustJoin(t, x, id, 1, api.OK)
		l = append(l, turns.Want{ID: id, Cost: most})
	}
	for range 3 {
		for id := 1; id < many; id++ {
			mustTake(t, x, id, l...)
			mustCredit(t, x, id, 0, true)
			mustCredit(t, x, 0, most-1, true) // the first one is the last to gain
		}
		mustTake(t, x, 0, l...)
		mustCredit(t, x, 0, 0, true)
	}
}

// N2: what is promised goes for lists of a million wants.
func TestLongestList(t *testing.T) {
	x := of(t, 5, 1, 1, 1)
	l := slices.Repeat([]turns.Want{{ID: 1, Cost: 0}, {ID: 7, Cost: 1}}, 500000)
	mustNotTake(t, x, l...)
	l[900000], l[900001], l[999999] = turns.Want{ID: 3, Cost: 5}, turns.Want{ID: 3, Cost: 1}, turns.Want{ID: 2, Cost: 6}
	mustTake(t, x, 3, l...)
	mustCredit(t, x, 2, 5, true)
	mustCredit(t, x, 3, 0, true)
}

// N2: all rows of five steps of two ids, with small and with large costs, for several quanta.
func TestAllShortRows(t *testing.T) {
	all := []step{
		{kind: join, id: 3, weight: 1}, {kind: join, id: 4, weight: 2}, {kind: leave, id: 3}, {kind: leave, id: 4},
		{kind: take, wants: []turns.Want{{ID: 3, Cost: 1}}},
		{kind: take, wants: []turns.Want{{ID: 4, Cost: 7}}},
		{kind: take, wants: []turns.Want{{ID: 4, Cost: 4}, {ID: 3, Cost: 3}}},
		{kind: take, wants: []turns.Want{{ID: 3, Cost: 20}, {ID: 4, Cost: 31}, {ID: 5, Cost: 1}}},
	}
	for _, quantum := range []int{1, 2, 5} {
		allRows(all, 5, nil, func(row []step) { mustDoAll(t, quantum, row) })
	}
}

// N2: all rows of four takes of three members, in which each set of them wants something.
func TestAllTakes(t *testing.T) {
	var all []step
	for set := 1; set < 8; set++ {
		var l []turns.Want
		for id := range 3 {
			if set>>id&1 == 1 {
				l = append(l, turns.Want{ID: id, Cost: 2 + (set+id*3)%9})
			}
		}
		all = append(all, step{kind: take, wants: l})
	}
	start := []step{{kind: join, id: 0, weight: 1}, {kind: join, id: 1, weight: 3}, {kind: join, id: 2, weight: 2}}
	for _, quantum := range []int{1, 3} {
		allRows(all, 4, nil, func(row []step) { mustDoAll(t, quantum, append(slices.Clone(start), row...)) })
	}
}

// allRows does something with each row of so many more steps.
func allRows(all []step, more int, row []step, do func([]step)) {
	if more == 0 {
		do(row)
		return
	}
	for _, s := range all {
		allRows(all, more-1, append(slices.Clone(row), s), do)
	}
}

// N1, N2: long rows of all that may be called, with wrong numbers among them.
func TestLongRows(t *testing.T) {
	for seed := range 400 {
		x, row := seed, []step{}
		next := func(n int) int {
			x = (x*1103515245 + 12345) & (1<<31 - 1)
			return x >> 12 % n
		}
		quantum := []int{1, 3, 10, 200, most}[seed%5]
		dearest := []int{5, 40, 300, most}[seed/5%4]
		for range 120 {
			s := step{kind: next(9), id: next(9) - 1, weight: next(8)}
			if seed%3 == 0 {
				s.weight = next(103)
			}
			if s.kind > take {
				s.kind = take
			}
			for range next(11) * (s.kind / take) {
				s.wants = append(s.wants, turns.Want{ID: next(10) - 1, Cost: next(dearest+2) - next(2)})
			}
			row = append(row, s)
		}
		mustDoAll(t, quantum, row)
	}
}

// What follows: whoever always wants gets as much as all others who do, by weight, but for two quanta, and a cost.
func TestFair(t *testing.T) {
	for seed := range 60 {
		x := seed + 1
		next := func(n int) int {
			x = (x*1103515245 + 12345) & (1<<31 - 1)
			return x >> 12 % n
		}
		quantum, dearest := 1+next(30), 1+next(100)
		y := turns.New(quantum)
		var weights []int
		for id := range 2 + next(6) {
			weights = append(weights, 1+next(9))
			mustJoin(t, y, id, weights[id], api.OK)
		}
		mustJoin(t, y, 99, 5, api.OK) // who wants only now and then
		got, costs := make([]int, len(weights)+100), make([]int, len(weights))
		for range 1500 {
			var l []turns.Want
			for id := range weights {
				if costs[id] == 0 {
					costs[id] = 1 + next(dearest) // it is the same till somebody has it
				}
				l = append(l, turns.Want{ID: id, Cost: costs[id]})
			}
			if next(3) == 0 {
				l = append(l, turns.Want{ID: 99, Cost: 1 + next(dearest)})
			}
			id, ok := y.Take(l)
			if !ok {
				t.Fatal("nobody")
			}
			if id != 99 {
				got[id] += costs[id]
				costs[id] = 0
			}
			mustBeFair(t, got, weights, 2*quantum+dearest)
		}
	}
}

// mustBeFair holds what any two have got against each other, by weight.
func mustBeFair(t *testing.T, got, weights []int, bound int) {
	t.Helper()
	for i, mine := range weights {
		for j, theirs := range weights {
			if got[i]*theirs-got[j]*mine > bound*mine*theirs {
				t.Fatalf("%d has %d by %d, %d has %d by %d", i, got[i], mine, j, got[j], theirs)
			}
		}
	}
}

// R1: the list is not kept: who owns it may write over it.
func TestListIsNotKept(t *testing.T) {
	x := of(t, 5, 1, 1)
	l := []turns.Want{{ID: 1, Cost: 10}, {ID: 2, Cost: 10}, {ID: 1, Cost: 1}}
	mustTake(t, x, 2, l[:2]...)
	for i := range l {
		l[i] = turns.Want{ID: 2, Cost: 1}
	}
	mustCredit(t, x, 1, 5, true)
	mustTake(t, x, 1, turns.Want{ID: 1, Cost: 10})
	if l[2] != (turns.Want{ID: 2, Cost: 1}) {
		t.Error(l[2])
	}
}

// R3: two turns have nothing to do with each other.
func TestTwoTurns(t *testing.T) {
	a, b := of(t, 5, 1, 1), of(t, 5, 1, 1)
	mustTake(t, a, 2, turns.Want{ID: 2, Cost: 3})
	mustTurn(t, b, 1)
	mustCredit(t, b, 2, 0, true)
	mustLeave(t, b, 2, api.OK)
	mustTurn(t, a, 2)
	mustCredit(t, a, 2, 2, true)
	if a.Len() != 2 || b.Len() != 1 {
		t.Error(a.Len(), b.Len())
	}
}
