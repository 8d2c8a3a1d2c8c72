package graph_test

import (
	"math"
	"reflect"
	"slices"
	"testing"

	"millwright/api"
	"millwright/graph"
)

type edge struct{ from, to int }

// whole is all that a graph tells of its edges.
type whole struct {
	n, len           int
	out, in, reaches [][]int
	has              []edge
}

// beyond is ids around a graph of n tasks that are none of them, some of which have the lower bits of one.
func beyond(n int) []int {
	return []int{-1, -2, -64, -n - 1, n, n + 1, n + 64, n + 1<<32, 64, 65, 128, 1 << 20, 1 << 32, -1 << 32, math.MaxInt, math.MinInt}
}

// tell asks a graph for everything, of its tasks and of some ids that are none.
func tell(g *graph.Graph) whole {
	w := whole{n: g.N(), len: g.Len()}
	for a := -2; a < 67; a++ {
		w.out = append(w.out, append([]int{}, g.Out(a)...))
		w.in = append(w.in, append([]int{}, g.In(a)...))
		w.reaches = append(w.reaches, append([]int{}, g.Reach(a)...))
		for b := -2; b < 67; b++ {
			if g.Has(a, b) {
				w.has = append(w.has, edge{a, b})
			}
		}
	}
	return w
}

func mustAdd(t *testing.T, g *graph.Graph, a, b int, want bool, wantErr api.Errno) {
	t.Helper()
	if is, err := g.Add(a, b); is != want || err != wantErr {
		t.Errorf("Add(%d, %d) of %d tasks: %v %v, want %v %v", a, b, g.N(), is, err, want, wantErr)
	}
}

// of is a graph of n tasks with these edges, all of which are new.
func of(t *testing.T, n int, edges ...edge) *graph.Graph {
	t.Helper()
	g := graph.New(n)
	for _, e := range edges {
		mustAdd(t, g, e.from, e.to, true, api.OK)
	}
	return g
}

func mustRow(t *testing.T, name string, id int, row []int, want ...int) {
	t.Helper()
	if !slices.Equal(row, want) {
		t.Errorf("%s(%d): %v, want %v", name, id, row, want)
	}
}

func mustLen(t *testing.T, g *graph.Graph, want int) {
	t.Helper()
	if n := g.Len(); n != want {
		t.Errorf("Len: %d, want %d", n, want)
	}
}

// mustReach asks for all that a reaches, by both calls.
func mustReach(t *testing.T, g *graph.Graph, a int, want ...int) {
	t.Helper()
	mustRow(t, "Reach", a, g.Reach(a), want...)
	for b := -2; b < 67; b++ {
		if is := g.Reaches(a, b); is != slices.Contains(want, b) {
			t.Errorf("Reaches(%d, %d): %v, want %v", a, b, is, !is)
		}
	}
}

// E1: New and N, of no tasks, of as many as there may be, and of more.
func TestNewHasTasks(t *testing.T) {
	for _, x := range []struct{ n, want int }{
		{math.MinInt, 0}, {-1 << 32, 0}, {-64, 0}, {-1, 0}, {0, 0},
		{1, 1}, {2, 2}, {5, 5}, {31, 31}, {32, 32}, {33, 33}, {63, 63}, {64, 64},
		{65, 64}, {99, 64}, {1 << 20, 64}, {1 << 32, 64}, {1<<32 + 3, 64}, {math.MaxInt, 64},
	} {
		g := graph.New(x.n)
		if n := g.N(); n != x.want {
			t.Errorf("New(%d).N(): %d, want %d", x.n, n, x.want)
		}
		mustLen(t, g, 0)
		for a := -2; a < 67; a++ {
			mustRow(t, "Out", a, g.Out(a))
			mustRow(t, "In", a, g.In(a))
			for b := -2; b < 67; b++ {
				if g.Has(a, b) {
					t.Errorf("New(%d): there is an edge %d to %d", x.n, a, b)
				}
			}
			if a < 0 || a >= x.want {
				mustReach(t, g, a)
			} else {
				mustReach(t, g, a, a)
			}
		}
	}
}

// E1: N stays, and each task from the first to the last one may have edges.
func TestEachTaskMayHaveEdges(t *testing.T) {
	for _, n := range []int{1, 2, 5, 63, 64} {
		g := graph.New(n)
		for a := range n {
			mustAdd(t, g, a, n-1-a, true, api.OK)
			mustRow(t, "Out", a, g.Out(a), n-1-a)
			mustRow(t, "In", n-1-a, g.In(n-1-a), a)
			mustLen(t, g, a+1)
		}
		if g.N() != n {
			t.Errorf("N: %d, want %d", g.N(), n)
		}
	}
}

// E1: edges that are new, the same again, to themselves, and both ways.
func TestAdd(t *testing.T) {
	g := graph.New(5)
	for _, x := range []struct {
		a, b int
		is   bool
		len  int
	}{
		{0, 2, true, 1},
		{0, 2, false, 1},
		{2, 0, true, 2},
		{2, 0, false, 2},
		{0, 2, false, 2},
		{3, 3, true, 3},
		{3, 3, false, 3},
		{0, 4, true, 4},
		{4, 4, true, 5},
		{0, 0, true, 6},
		{0, 2, false, 6},
		{1, 2, true, 7},
	} {
		if had := g.Has(x.a, x.b); had == x.is {
			t.Errorf("Has(%d, %d) ahead of Add: %v", x.a, x.b, had)
		}
		mustAdd(t, g, x.a, x.b, x.is, api.OK)
		if !g.Has(x.a, x.b) {
			t.Errorf("Has(%d, %d) behind Add: false", x.a, x.b)
		}
		mustLen(t, g, x.len)
	}
}

// E1: an edge goes one way, and says nothing of others.
func TestHas(t *testing.T) {
	edges := []edge{{0, 2}, {2, 1}, {3, 3}, {63, 0}, {31, 32}, {32, 31}, {5, 63}}
	g := of(t, 64, edges...)
	for a := range 64 {
		for b := range 64 {
			if is := g.Has(a, b); is != slices.Contains(edges, edge{a, b}) {
				t.Errorf("Has(%d, %d): %v", a, b, is)
			}
		}
	}
	for _, a := range beyond(64) {
		for b := range 64 {
			if g.Has(a, b) || g.Has(b, a) {
				t.Errorf("Has of %d and %d, one of which is no task", a, b)
			}
		}
	}
}

// E1: an edge whose beginning, or whose end, is no task changes nothing.
func TestAddOfNoTask(t *testing.T) {
	for _, n := range []int{-1, 0, 1, 5, 63, 64, 70} {
		g := graph.New(n)
		for a := range g.N() {
			mustAdd(t, g, a, a*3%g.N(), true, api.OK)
		}
		ahead := tell(g)
		for _, wrong := range beyond(g.N()) {
			if wrong >= 0 && wrong < g.N() {
				t.Fatalf("%d is a task of %d", wrong, g.N())
			}
			mustAdd(t, g, wrong, wrong, false, api.ErrArg)
			for a := range g.N() {
				mustAdd(t, g, a, wrong, false, api.ErrArg)
				mustAdd(t, g, wrong, a, false, api.ErrArg)
			}
			if g.Has(wrong, wrong) {
				t.Errorf("Has(%d, %d) of %d tasks", wrong, wrong, g.N())
			}
			mustRow(t, "Out", wrong, g.Out(wrong))
			mustRow(t, "In", wrong, g.In(wrong))
		}
		if behind := tell(g); !reflect.DeepEqual(ahead, behind) {
			t.Errorf("%d tasks: %+v became %+v", n, ahead, behind)
		}
	}
}

// E1: Out and In tell in the order in which edges were added, not by size.
func TestOutAndInTellInOrder(t *testing.T) {
	g := of(t, 6, edge{0, 5}, edge{1, 3}, edge{0, 2}, edge{4, 3}, edge{0, 4}, edge{0, 3}, edge{3, 3}, edge{2, 3}, edge{0, 0})
	// An edge that is there stays where it was told.
	mustAdd(t, g, 0, 5, false, api.OK)
	mustAdd(t, g, 1, 3, false, api.OK)
	mustRow(t, "Out", 0, g.Out(0), 5, 2, 4, 3, 0)
	mustRow(t, "Out", 1, g.Out(1), 3)
	mustRow(t, "Out", 3, g.Out(3), 3)
	mustRow(t, "Out", 5, g.Out(5))
	mustRow(t, "In", 3, g.In(3), 1, 4, 0, 3, 2)
	mustRow(t, "In", 0, g.In(0), 0)
	mustRow(t, "In", 5, g.In(5), 0)
	mustRow(t, "In", 1, g.In(1))
	for _, id := range beyond(6) {
		mustRow(t, "Out", id, g.Out(id))
		mustRow(t, "In", id, g.In(id))
	}
	mustLen(t, g, 9)
}

// E1: Out and In tell the ends, and the beginnings, of edges alone: not what is reached by them.
func TestOutAndInTellEdgesAlone(t *testing.T) {
	g := of(t, 3, edge{0, 1}, edge{1, 2})
	mustRow(t, "Out", 0, g.Out(0), 1)
	mustRow(t, "In", 2, g.In(2), 1)
	if g.Has(0, 2) || g.Has(0, 0) {
		t.Error("what is reached is no edge")
	}
	g.Reach(0)
	mustAdd(t, g, 0, 2, true, api.OK)
	mustRow(t, "Out", 0, g.Out(0), 1, 2)
}

// E1: as many edges as there can be.
func TestAllEdges(t *testing.T) {
	g := graph.New(64)
	var falling []int
	for b := 63; b >= 0; b-- {
		falling = append(falling, b)
		for a := range 64 {
			mustAdd(t, g, a, b, true, api.OK)
		}
	}
	mustLen(t, g, 64*64)
	for a := range 64 {
		mustRow(t, "Out", a, g.Out(a), falling...)
		mustRow(t, "In", a, g.In(a), slices.Sorted(slices.Values(falling))...)
		for b := range 64 {
			mustAdd(t, g, a, b, false, api.OK)
		}
	}
	mustLen(t, g, 64*64)
	mustReach(t, g, 7, slices.Sorted(slices.Values(falling))...)
}

// R1: what Out, In and Reach hand back is the caller's own.
func TestAnswersAreTheCallers(t *testing.T) {
	g := of(t, 5, edge{0, 2}, edge{0, 1}, edge{3, 2}, edge{2, 4})
	calls := []func(int) []int{g.Out, g.In, g.Reach}
	ahead := tell(g)
	for _, call := range calls {
		for id := range 5 {
			row, again := call(id), call(id)
			kept := slices.Clone(again)
			for i := range row[:cap(row)] {
				row[:cap(row)][i] = 77
			}
			if !slices.Equal(again, kept) {
				t.Errorf("an answer for %d became %v, as another one was written over", id, again)
			}
		}
	}
	if behind := tell(g); !reflect.DeepEqual(ahead, behind) {
		t.Errorf("%+v became %+v", ahead, behind)
	}
	// Answers stay as they were while the graph goes on.
	out, in, reach := g.Out(0), g.In(2), g.Reach(0)
	mustAdd(t, g, 0, 3, true, api.OK)
	mustAdd(t, g, 1, 2, true, api.OK)
	mustRow(t, "Out", 0, out, 2, 1)
	mustRow(t, "In", 2, in, 0, 3)
	mustRow(t, "Reach", 0, reach, 0, 1, 2, 4)
	mustRow(t, "Out", 0, g.Out(0), 2, 1, 3)
	mustRow(t, "In", 2, g.In(2), 0, 3, 1)
	mustReach(t, g, 0, 0, 1, 2, 3, 4)
}

// R3: two graphs have nothing to do with each other.
func TestTwoGraphs(t *testing.T) {
	g, h := graph.New(4), graph.New(3)
	mustAdd(t, g, 0, 1, true, api.OK)
	mustAdd(t, h, 0, 1, true, api.OK)
	mustAdd(t, h, 1, 2, true, api.OK)
	mustAdd(t, g, 1, 3, true, api.OK)
	mustAdd(t, h, 1, 3, false, api.ErrArg)
	mustReach(t, g, 0, 0, 1, 3)
	mustReach(t, h, 0, 0, 1, 2)
	mustLen(t, g, 2)
	if g.N() != 4 || h.N() != 3 || g.Has(1, 2) {
		t.Error(g.N(), h.N(), g.Has(1, 2))
	}
}

// E2: the document's example.
func TestReachOfTheExample(t *testing.T) {
	g := of(t, 3, edge{0, 2}, edge{2, 1})
	mustReach(t, g, 0, 0, 1, 2)
	mustReach(t, g, 1, 1)
	mustReach(t, g, 2, 1, 2)
}

// E2: a task alone, with and without an edge to itself.
func TestReachOfATaskAlone(t *testing.T) {
	g := of(t, 4, edge{3, 3}, edge{0, 1})
	mustReach(t, g, 2, 2)
	mustReach(t, g, 3, 3)
	mustReach(t, graph.New(1), 0, 0)
	for a := range 64 {
		mustReach(t, graph.New(64), a, a)
	}
}

// E2: chains, up, down, and in the order in which a single pass over edges would miss the end.
func TestReachOfAChain(t *testing.T) {
	var up, down []edge
	var all []int
	for i := range 64 {
		all = append(all, i)
		if i < 63 {
			up = append(up, edge{i, i + 1})
			down = append(down, edge{i + 1, i})
		}
	}
	turned := func(l []edge) []edge {
		l = slices.Clone(l)
		slices.Reverse(l)
		return l
	}
	for _, l := range [][]edge{up, turned(up)} {
		g := of(t, 64, l...)
		for i := range 64 {
			mustReach(t, g, i, all[i:]...)
		}
	}
	for _, l := range [][]edge{down, turned(down)} {
		g := of(t, 64, l...)
		for i := range 64 {
			mustReach(t, g, i, all[:i+1]...)
		}
	}
}

// E2: who is on a circle reaches all of it, and what hangs on it; who hangs on it is not reached.
func TestReachOfACircle(t *testing.T) {
	g := of(t, 7, edge{4, 1}, edge{1, 3}, edge{3, 4}, edge{3, 6}, edge{0, 1}, edge{5, 5})
	for _, a := range []int{1, 3, 4} {
		mustReach(t, g, a, 1, 3, 4, 6)
	}
	mustReach(t, g, 0, 0, 1, 3, 4, 6)
	mustReach(t, g, 6, 6)
	mustReach(t, g, 5, 5)
	mustReach(t, g, 2, 2)

	pair := of(t, 3, edge{0, 1}, edge{1, 0})
	mustReach(t, pair, 0, 0, 1)
	mustReach(t, pair, 1, 0, 1)
	mustReach(t, pair, 2, 2)
}

// E2: a task that is reached by two ways is told once.
func TestReachByTwoWays(t *testing.T) {
	g := of(t, 6, edge{0, 4}, edge{0, 2}, edge{2, 1}, edge{4, 1}, edge{0, 1}, edge{1, 5})
	mustReach(t, g, 0, 0, 1, 2, 4, 5)
	mustReach(t, g, 2, 1, 2, 5)
	mustReach(t, g, 4, 1, 4, 5)
	mustReach(t, g, 3, 3)
}

// E2: what is no task reaches nothing, and is not reached, not even by itself.
func TestReachOfNoTask(t *testing.T) {
	for _, n := range []int{-1, 0, 1, 5, 64, 70} {
		g := graph.New(n)
		for a := range g.N() {
			mustAdd(t, g, a, (a+1)%g.N(), true, api.OK)
		}
		for _, wrong := range beyond(g.N()) {
			mustReach(t, g, wrong)
			if g.Reaches(wrong, wrong) {
				t.Errorf("%d tasks: %d reaches itself", g.N(), wrong)
			}
			for a := range g.N() {
				if g.Reaches(a, wrong) || g.Reaches(wrong, a) {
					t.Errorf("%d tasks: %d, which is none, and %d reach each other", g.N(), wrong, a)
				}
			}
		}
	}
}

// model is a second telling of a graph: by edges alone, and by going from each to the next until nothing is new.
type model struct {
	n     int
	edges []edge
}

func (m model) out(a int) []int {
	var l []int
	for _, e := range m.edges {
		if e.from == a {
			l = append(l, e.to)
		}
	}
	return l
}

func (m model) in(b int) []int {
	var l []int
	for _, e := range m.edges {
		if e.to == b {
			l = append(l, e.from)
		}
	}
	return l
}

func (m model) reach(a int) []int {
	found := map[int]bool{a: true}
	for grown := true; grown; {
		grown = false
		for _, e := range m.edges {
			if found[e.from] && !found[e.to] {
				found[e.to], grown = true, true
			}
		}
	}
	var l []int
	for b := range m.n {
		if found[b] {
			l = append(l, b)
		}
	}
	return l
}

func mustBe(t *testing.T, g *graph.Graph, m model) {
	t.Helper()
	if g.N() != m.n || g.Len() != len(m.edges) {
		t.Fatalf("%d tasks and %d edges, want %d and %d", g.N(), g.Len(), m.n, len(m.edges))
	}
	for a := range m.n {
		reach := m.reach(a)
		mustRow(t, "Out", a, g.Out(a), m.out(a)...)
		mustRow(t, "In", a, g.In(a), m.in(a)...)
		mustRow(t, "Reach", a, g.Reach(a), reach...)
		for b := range m.n {
			if is := g.Has(a, b); is != slices.Contains(m.edges, edge{a, b}) {
				t.Errorf("%v: Has(%d, %d): %v", m.edges, a, b, is)
			}
			if is := g.Reaches(a, b); is != slices.Contains(reach, b) {
				t.Errorf("%v: Reaches(%d, %d): %v", m.edges, a, b, is)
			}
		}
	}
}

// E1, E2: all graphs of up to three tasks, their edges added from either end.
func TestAllSmallGraphs(t *testing.T) {
	for n := range 4 {
		for bits := range 1 << (n * n) {
			m := model{n: n}
			for i := range n * n {
				if bits>>i&1 == 1 {
					m.edges = append(m.edges, edge{i / n, i % n})
				}
			}
			for range 2 {
				mustBe(t, of(t, n, m.edges...), m)
				slices.Reverse(m.edges)
			}
		}
	}
}

// E1, E2, and what follows: graphs that grow edge by edge, held against the second telling; what is reached stays so.
func TestGraphsThatGrow(t *testing.T) {
	for _, n := range []int{2, 5, 9, 33, 64} {
		g, m := graph.New(n), model{n: n}
		reached := make([][]int, n)
		// Steps of a prime over all pairs: each once, far from any order of size.
		pairs := n * n
		for i := range min(pairs, 200) {
			at := i * 7919 % pairs
			e := edge{at / n, at % n}
			mustAdd(t, g, e.from, e.to, true, api.OK)
			m.edges = append(m.edges, e)
			mustAdd(t, g, e.from, e.to, false, api.OK)
			mustAdd(t, g, m.edges[i/2].from, m.edges[i/2].to, false, api.OK)
			mustAdd(t, g, e.from, n, false, api.ErrArg)
			mustBe(t, g, m)
			for a := range n {
				for _, b := range reached[a] {
					if !g.Reaches(a, b) {
						t.Fatalf("%d reached %d, and does not behind %v", a, b, e)
					}
				}
				reached[a] = g.Reach(a)
			}
		}
	}
}

// What follows: what is reached stays so, also when an edge closes a circle or goes to the task itself.
func TestReachedStaysReached(t *testing.T) {
	g := graph.New(5)
	for _, x := range []struct {
		e    edge
		want []int // of task 0
	}{
		{edge{1, 2}, []int{0}},
		{edge{0, 1}, []int{0, 1, 2}},
		{edge{0, 0}, []int{0, 1, 2}},
		{edge{2, 0}, []int{0, 1, 2}},
		{edge{3, 0}, []int{0, 1, 2}},
		{edge{2, 4}, []int{0, 1, 2, 4}},
		{edge{4, 3}, []int{0, 1, 2, 3, 4}},
		{edge{1, 4}, []int{0, 1, 2, 3, 4}},
	} {
		mustAdd(t, g, x.e.from, x.e.to, true, api.OK)
		mustReach(t, g, 0, x.want...)
	}
}

// R4: to ask changes nothing, and the same calls have the same answers.
func TestSameCallsSameAnswers(t *testing.T) {
	edges := []edge{{3, 1}, {1, 3}, {0, 3}, {4, 4}, {2, 0}}
	g, h := of(t, 5, edges...), of(t, 5, edges...)
	first := tell(g)
	if again := tell(g); !reflect.DeepEqual(first, again) {
		t.Errorf("%+v, then %+v", first, again)
	}
	if other := tell(h); !reflect.DeepEqual(first, other) {
		t.Errorf("%+v, and %+v of another one", first, other)
	}
}
