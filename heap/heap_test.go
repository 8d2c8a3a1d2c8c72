package heap_test

import (
	"math"
	"slices"
	"testing"

	"millwright/api"
	"millwright/heap"
)

const most = 65536

// pair is an id and its key.
type pair struct{ id, key int }

// of is a heap of n ids with these pairs, pushed in this order.
func of(t *testing.T, n int, pairs ...pair) *heap.Heap {
	t.Helper()
	h := heap.New(n)
	for _, p := range pairs {
		mustPush(t, h, p.id, p.key, api.OK)
	}
	return h
}

// beyond is ids that no heap of n ids is of.
func beyond(n int) []int {
	return []int{-1, -2, -n - 1, n, n + 1, n + 1<<32, most, most + 1, 1 << 32, -1 << 32, math.MaxInt, math.MinInt}
}

func mustPush(t *testing.T, h *heap.Heap, id, key int, want api.Errno) {
	t.Helper()
	if err := h.Push(id, key); err != want {
		t.Errorf("Push(%d, %d): %v, want %v", id, key, err, want)
	}
}

func mustLower(t *testing.T, h *heap.Heap, id, key int, want api.Errno) {
	t.Helper()
	if err := h.Lower(id, key); err != want {
		t.Errorf("Lower(%d, %d): %v, want %v", id, key, err, want)
	}
}

func mustRemove(t *testing.T, h *heap.Heap, id, key int, want api.Errno) {
	t.Helper()
	if k, err := h.Remove(id); k != key || err != want {
		t.Errorf("Remove(%d): %d %v, want %d %v", id, k, err, key, want)
	}
}

// mustPop asks for the first one, twice, as First changes nothing, and then pops it.
func mustPop(t *testing.T, h *heap.Heap, want pair) {
	t.Helper()
	n := h.Len()
	for range 2 {
		if id, key, ok := h.First(); (pair{id, key}) != want || !ok {
			t.Errorf("First: %d %d %v, want %v true", id, key, ok, want)
		}
	}
	if h.Len() != n || !h.Has(want.id) {
		t.Errorf("First has changed the heap: %d %v, want %d true", h.Len(), h.Has(want.id), n)
	}
	if id, key, ok := h.Pop(); (pair{id, key}) != want || !ok {
		t.Errorf("Pop: %d %d %v, want %v true", id, key, ok, want)
	}
	mustLack(t, h, want.id)
	if h.Len() != n-1 {
		t.Errorf("Len behind Pop: %d, want %d", h.Len(), n-1)
	}
}

// mustPopAll pops all that a heap has, which must be these.
func mustPopAll(t *testing.T, h *heap.Heap, want ...pair) {
	t.Helper()
	if h.Len() != len(want) {
		t.Errorf("Len: %d, want %d", h.Len(), len(want))
	}
	for _, p := range want {
		mustPop(t, h, p)
	}
	mustBeEmpty(t, h)
}

func mustBeEmpty(t *testing.T, h *heap.Heap) {
	t.Helper()
	if id, key, ok := h.First(); id != 0 || key != 0 || ok {
		t.Errorf("First of none: %d %d %v", id, key, ok)
	}
	if id, key, ok := h.Pop(); id != 0 || key != 0 || ok {
		t.Errorf("Pop of none: %d %d %v", id, key, ok)
	}
	if h.Len() != 0 {
		t.Errorf("Len of none: %d", h.Len())
	}
}

func mustHave(t *testing.T, h *heap.Heap, pairs ...pair) {
	t.Helper()
	for _, p := range pairs {
		if key, ok := h.Key(p.id); key != p.key || !ok || !h.Has(p.id) {
			t.Errorf("Key(%d): %d %v, Has: %v, want %d", p.id, key, ok, h.Has(p.id), p.key)
		}
	}
}

func mustLack(t *testing.T, h *heap.Heap, ids ...int) {
	t.Helper()
	for _, id := range ids {
		if key, ok := h.Key(id); key != 0 || ok || h.Has(id) {
			t.Errorf("Key(%d): %d %v, Has: %v, want none", id, key, ok, h.Has(id))
		}
	}
}

// G1: the document's example.
func TestExample(t *testing.T) {
	mustPopAll(t, of(t, 4, pair{3, 5}, pair{1, 5}, pair{2, 9}), pair{1, 5}, pair{3, 5}, pair{2, 9})
}

// G1: New has none; of how many ids it is, is told by what may be pushed.
func TestNew(t *testing.T) {
	for _, c := range []struct{ n, ids int }{
		{math.MinInt, 0}, {-1 << 32, 0}, {-65536, 0}, {-1, 0}, {0, 0},
		{1, 1}, {2, 2}, {64, 64}, {65, 65}, {65535, 65535}, {65536, 65536},
		{65537, 65536}, {1 << 20, 65536}, {1 << 32, 65536}, {1<<32 + 3, 65536}, {math.MaxInt, 65536},
	} {
		h := heap.New(c.n)
		mustBeEmpty(t, h)
		mustLack(t, h, 0, c.ids-1, c.ids)
		for _, id := range beyond(c.ids) {
			mustPush(t, h, id, 1, api.ErrArg)
		}
		mustBeEmpty(t, h)
		if c.ids > 0 {
			mustPush(t, h, c.ids-1, 7, api.OK)
			mustHave(t, h, pair{c.ids - 1, 7})
			mustPopAll(t, h, pair{c.ids - 1, 7})
		}
	}
}

// G1: a heap may have all of its ids at once, as many as there may be.
func TestAllIDs(t *testing.T) {
	h := heap.New(math.MaxInt)
	for id := range most {
		if err := h.Push(id, -(id / 2)); err != api.OK {
			t.Fatalf("Push(%d): %v", id, err)
		}
	}
	mustPush(t, h, 0, -most, api.ErrState)
	mustPush(t, h, most, -most, api.ErrArg)
	for i := range most {
		// Of two that share a key the least one is first.
		want := pair{most - 2 - i/2*2 + i%2, -(most/2 - 1 - i/2)}
		if id, key, ok := h.Pop(); (pair{id, key}) != want || !ok || h.Len() != most-1-i {
			t.Fatalf("Pop %d: %d %d %v, want %v", i, id, key, ok, want)
		}
	}
	mustBeEmpty(t, h)
}

// G1: Push tells ErrArg of what is no id and ErrState of what it has, and then changes nothing.
func TestPush(t *testing.T) {
	h := of(t, 5, pair{4, -1}, pair{0, 0})
	for _, id := range beyond(5) {
		mustPush(t, h, id, -9, api.ErrArg)
		mustLack(t, h, id)
	}
	for _, key := range []int{-9, -1, 0, 9, math.MinInt, math.MaxInt} {
		mustPush(t, h, 4, key, api.ErrState)
		mustPush(t, h, 0, key, api.ErrState)
		mustHave(t, h, pair{4, -1}, pair{0, 0})
	}
	mustLack(t, h, 1, 2, 3)
	mustPopAll(t, h, pair{4, -1}, pair{0, 0})
	mustPush(t, h, 4, 3, api.OK)
	mustPush(t, h, 4, 3, api.ErrState)
	mustPopAll(t, h, pair{4, 3})
}

// G1: any number may be a key; those far from each other are in order too.
func TestKeys(t *testing.T) {
	h := of(t, 8, pair{0, math.MaxInt}, pair{1, 0}, pair{2, math.MinInt}, pair{3, -1},
		pair{4, 1}, pair{5, math.MinInt}, pair{6, math.MaxInt}, pair{7, math.MinInt + 1})
	mustHave(t, h, pair{0, math.MaxInt}, pair{1, 0}, pair{2, math.MinInt}, pair{3, -1})
	mustPopAll(t, h, pair{2, math.MinInt}, pair{5, math.MinInt}, pair{7, math.MinInt + 1}, pair{3, -1},
		pair{1, 0}, pair{4, 1}, pair{0, math.MaxInt}, pair{6, math.MaxInt})
}

// G1: of keys that are the same the least id is first, in whatever order they were pushed.
func TestSameKeys(t *testing.T) {
	for _, key := range []int{math.MinInt, -3, 0, 3, math.MaxInt} {
		h := heap.New(9)
		var want []pair
		for i := range 9 {
			mustPush(t, h, (i*5+3)%9, key, api.OK)
			want = append(want, pair{i, key})
		}
		mustPopAll(t, h, want...)
	}
}

// G1: Lower tells ErrArg, ErrNone or ErrRange, the first that applies, and then changes nothing.
func TestLowerWrong(t *testing.T) {
	h := of(t, 4, pair{1, 5}, pair{2, 3}, pair{3, math.MinInt})
	for _, id := range beyond(4) {
		mustLower(t, h, id, -9, api.ErrArg)
		mustLower(t, h, id, math.MaxInt, api.ErrArg)
	}
	for _, key := range []int{math.MinInt, -1, 0, 1, math.MaxInt} {
		mustLower(t, h, 0, key, api.ErrNone)
	}
	for _, key := range []int{6, 7, math.MaxInt} {
		mustLower(t, h, 1, key, api.ErrRange)
	}
	mustLower(t, h, 2, 4, api.ErrRange)
	mustLower(t, h, 3, math.MinInt+1, api.ErrRange)
	mustLower(t, h, 3, 0, api.ErrRange)
	mustLack(t, h, 0)
	mustHave(t, h, pair{1, 5}, pair{2, 3}, pair{3, math.MinInt})
	mustPopAll(t, h, pair{3, math.MinInt}, pair{2, 3}, pair{1, 5})
	mustLower(t, h, 1, 0, api.ErrNone)
	mustBeEmpty(t, h)
}

// G1: Lower to its own key changes nothing, and below others it comes ahead of them.
func TestLower(t *testing.T) {
	h := of(t, 5, pair{0, 2}, pair{1, 4}, pair{2, 6}, pair{3, 8}, pair{4, 10})
	mustLower(t, h, 4, 10, api.OK)
	mustLower(t, h, 0, 2, api.OK)
	mustHave(t, h, pair{0, 2}, pair{1, 4}, pair{2, 6}, pair{3, 8}, pair{4, 10})
	mustLower(t, h, 3, 4, api.OK)
	mustLower(t, h, 3, 8, api.ErrRange)
	mustLower(t, h, 2, 3, api.OK)
	mustLower(t, h, 4, math.MinInt, api.OK)
	if h.Len() != 5 {
		t.Errorf("Len behind Lower: %d, want 5", h.Len())
	}
	mustPopAll(t, h, pair{4, math.MinInt}, pair{0, 2}, pair{2, 3}, pair{1, 4}, pair{3, 4})

	// By its id it stands ahead of those of the key that it has now, or behind them.
	h = of(t, 3, pair{0, 9}, pair{1, 1}, pair{2, 9})
	mustLower(t, h, 2, 1, api.OK)
	mustLower(t, h, 0, 1, api.OK)
	mustPopAll(t, h, pair{0, 1}, pair{1, 1}, pair{2, 1})

	h = of(t, 3, pair{0, 3}, pair{1, 2}, pair{2, 1})
	mustLower(t, h, 2, 0, api.OK)
	mustPopAll(t, h, pair{2, 0}, pair{1, 2}, pair{0, 3})
}

// G1: Remove tells 0 beside ErrArg and ErrNone, and then changes nothing.
func TestRemoveWrong(t *testing.T) {
	h := of(t, 3, pair{1, 5}, pair{2, 3})
	for _, id := range beyond(3) {
		mustRemove(t, h, id, 0, api.ErrArg)
	}
	mustRemove(t, h, 0, 0, api.ErrNone)
	mustRemove(t, h, 1, 5, api.OK)
	mustRemove(t, h, 1, 0, api.ErrNone)
	mustPopAll(t, h, pair{2, 3})
	mustRemove(t, h, 2, 0, api.ErrNone)
	mustBeEmpty(t, h)
	mustRemove(t, heap.New(0), 0, 0, api.ErrArg)
}

// G1: whichever one is removed, the others stay in order, and it may be pushed again.
func TestRemove(t *testing.T) {
	all := []pair{{0, -4}, {5, -4}, {3, 0}, {1, 2}, {6, 2}, {2, 7}, {4, 9}}
	for out, gone := range all {
		h := heap.New(7)
		for i := range all {
			p := all[(i*3+out)%len(all)]
			mustPush(t, h, p.id, p.key, api.OK)
		}
		mustRemove(t, h, gone.id, gone.key, api.OK)
		mustLack(t, h, gone.id)
		rest := slices.Delete(slices.Clone(all), out, out+1)
		mustHave(t, h, rest...)
		mustLower(t, h, gone.id, math.MinInt, api.ErrNone)
		mustPush(t, h, gone.id, 100, api.OK)
		mustPush(t, h, gone.id, 100, api.ErrState)
		mustHave(t, h, pair{gone.id, 100})
		mustPopAll(t, h, append(rest, pair{gone.id, 100})...)
	}
}

// G1: one that moves up into the place of the one that is removed comes as far up as it must.
func TestRemoveMovesUp(t *testing.T) {
	h := of(t, 9, pair{0, 0}, pair{1, 50}, pair{2, 1}, pair{3, 60}, pair{4, 70},
		pair{5, 2}, pair{6, 3}, pair{7, 80}, pair{8, 4})
	mustRemove(t, h, 3, 60, api.OK)
	mustPopAll(t, h, pair{0, 0}, pair{2, 1}, pair{5, 2}, pair{6, 3}, pair{8, 4},
		pair{1, 50}, pair{4, 70}, pair{7, 80})
}

// G1: popped ones may be pushed again, with any key.
func TestPushBehindPop(t *testing.T) {
	h := of(t, 2, pair{0, 1}, pair{1, 2})
	mustPop(t, h, pair{0, 1})
	mustPush(t, h, 0, 3, api.OK)
	mustPop(t, h, pair{1, 2})
	mustPush(t, h, 1, math.MinInt, api.OK)
	mustPopAll(t, h, pair{1, math.MinInt}, pair{0, 3})
}

// G1: Has and Key tell nothing of what is no id, and Len counts what is there.
func TestHasKeyLen(t *testing.T) {
	h := heap.New(3)
	for i, id := range []int{2, 0, 1} {
		mustLack(t, h, id)
		mustPush(t, h, id, 0, api.OK)
		mustHave(t, h, pair{id, 0})
		if h.Len() != i+1 {
			t.Errorf("Len: %d, want %d", h.Len(), i+1)
		}
	}
	mustLack(t, h, beyond(3)...)
	for i, id := range []int{0, 2, 1} {
		mustRemove(t, h, id, 0, api.OK)
		mustLack(t, h, id)
		if h.Len() != 2-i {
			t.Errorf("Len: %d, want %d", h.Len(), 2-i)
		}
	}
}

// R3: two heaps have nothing to do with each other.
func TestTwoHeaps(t *testing.T) {
	a, b := of(t, 3, pair{0, 5}, pair{1, 6}), of(t, 3, pair{0, 7}, pair{2, 1})
	mustLower(t, a, 0, -5, api.OK)
	mustRemove(t, b, 2, 1, api.OK)
	mustPush(t, a, 2, 9, api.OK)
	mustHave(t, a, pair{0, -5}, pair{1, 6}, pair{2, 9})
	mustHave(t, b, pair{0, 7})
	mustLack(t, b, 1, 2)
	mustPop(t, a, pair{0, -5})
	mustPopAll(t, b, pair{0, 7})
	mustPopAll(t, a, pair{1, 6}, pair{2, 9})
}

// told is the promise once more: of each id whether it is there and its key, and nothing else.
type told struct {
	has  []bool
	keys []int
}

func (m *told) errorOf(id int) api.Errno {
	if id < 0 || id >= len(m.has) {
		return api.ErrArg
	}
	if !m.has[id] {
		return api.ErrNone
	}
	return api.OK
}

func (m *told) first() (id, key int, ok bool) {
	for i, has := range m.has {
		if has && (!ok || m.keys[i] < key) {
			id, key, ok = i, m.keys[i], true
		}
	}
	return id, key, ok
}

// What a step does.
const (
	push = iota
	lower
	remove
	pop
	kinds
)

type step struct{ kind, id, key int }

// answer is all that a step tells.
type answer struct {
	id, key int
	ok      bool
	err     api.Errno
}

func (m *told) take(s step) (a answer) {
	err := m.errorOf(s.id)
	switch s.kind {
	case push:
		switch err {
		case api.ErrArg:
			return answer{err: api.ErrArg}
		case api.OK:
			return answer{err: api.ErrState}
		}
		m.has[s.id], m.keys[s.id] = true, s.key
	case lower:
		if err == api.OK && s.key > m.keys[s.id] {
			err = api.ErrRange
		}
		if err != api.OK {
			return answer{err: err}
		}
		m.keys[s.id] = s.key
	case remove:
		if err != api.OK {
			return answer{err: err}
		}
		a.key, m.has[s.id] = m.keys[s.id], false
	case pop:
		if a.id, a.key, a.ok = m.first(); a.ok {
			m.has[a.id] = false
		}
	}
	return a
}

func take(h *heap.Heap, s step) (a answer) {
	switch s.kind {
	case push:
		a.err = h.Push(s.id, s.key)
	case lower:
		a.err = h.Lower(s.id, s.key)
	case remove:
		a.key, a.err = h.Remove(s.id)
	case pop:
		a.id, a.key, a.ok = h.Pop()
	}
	return a
}

// mustBe asks a heap for all that may be asked without a change.
func mustBe(t *testing.T, h *heap.Heap, m *told) {
	t.Helper()
	n := 0
	for id := -1; id <= len(m.has); id++ {
		if m.errorOf(id) != api.OK {
			mustLack(t, h, id)
			continue
		}
		n++
		mustHave(t, h, pair{id, m.keys[id]})
	}
	id, key, ok := h.First()
	wantID, wantKey, wantOK := m.first()
	if id != wantID || key != wantKey || ok != wantOK {
		t.Errorf("First: %d %d %v, want %d %d %v", id, key, ok, wantID, wantKey, wantOK)
	}
	if h.Len() != n {
		t.Errorf("Len: %d, want %d", h.Len(), n)
	}
}

// mustTake takes these steps with a new heap of n ids, which must do as is told.
func mustTake(t *testing.T, n int, steps []step) {
	t.Helper()
	h, m := heap.New(n), &told{make([]bool, n), make([]int, n)}
	for i, s := range steps {
		got, want := take(h, s), m.take(s)
		if got != want {
			t.Errorf("%d ids, step %d %v: %v, want %v", n, i, s, got, want)
		}
		mustBe(t, h, m)
		if t.Failed() {
			t.Fatalf("%d ids: %v", n, steps[:i+1])
		}
	}
}

// G1: all rows of up to four steps of heaps of up to two ids.
func TestAllShortRows(t *testing.T) {
	for n := range 3 {
		all := []step{{kind: pop}}
		for id := -1; id <= n; id++ {
			all = append(all, step{kind: remove, id: id})
			for key := range 2 {
				all = append(all, step{push, id, key}, step{lower, id, key})
			}
		}
		var grow func(steps []step)
		grow = func(steps []step) {
			if len(steps) == 4 {
				mustTake(t, n, steps)
				return
			}
			for _, s := range all {
				grow(append(steps, s))
			}
		}
		grow(make([]step, 0, 4))
	}
}

// G1, R4: long rows of steps, some of which have no id or no such one, taken twice.
func TestLongRows(t *testing.T) {
	x := uint32(7)
	next := func(below int) int { // a row of numbers that looks like one by chance, and is always the same
		x = x*1664525 + 1013904223
		return int(x>>8) % below
	}
	for n := 1; n <= 40; n++ {
		var steps []step
		for i := range 400 {
			kind := next(kinds)
			if i%80 < 40 && kind >= remove { // grows and shrinks by turns
				kind = push
			}
			steps = append(steps, step{kind, next(n+2) - 1, next(12) - 6})
		}
		mustTake(t, n, steps)
		mustTake(t, n, steps)
	}
}
