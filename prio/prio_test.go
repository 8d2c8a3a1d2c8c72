package prio_test

import (
	"math"
	"reflect"
	"slices"
	"testing"

	"millwright/api"
	"millwright/graph"
	"millwright/prio"
)

type edge struct{ from, to int }

// of is a graph of n tasks with these edges, all of which are new.
func of(t *testing.T, n int, edges ...edge) *graph.Graph {
	t.Helper()
	g := graph.New(n)
	for _, e := range edges {
		if is, err := g.Add(e.from, e.to); !is || err != api.OK {
			t.Fatalf("Add(%d, %d) of %d tasks: %v %v", e.from, e.to, n, is, err)
		}
	}
	return g
}

// want is a request of weight 1.
func want(root, prio int) api.Request { return api.Request{Root: root, Weight: 1, Prio: prio} }

// beyond is ids that are no task of a graph of n tasks, some of which have the lower bits of one.
func beyond(n int) []int {
	return []int{-1, -2, -64, -n - 1, n, n + 1, n + 64, n + 1<<32, 64, 65, 128, 1 << 20, 1 << 32, -1 << 32, math.MaxInt, math.MinInt}
}

func mustOf(t *testing.T, g *graph.Graph, l []api.Request, want ...int) {
	t.Helper()
	if p := prio.Of(g, l); !slices.Equal(p, want) {
		t.Errorf("Of %v: %v, want %v", l, p, want)
	}
}

func mustReached(t *testing.T, g *graph.Graph, l []api.Request, task int, want ...int) {
	t.Helper()
	if places := prio.Reached(g, l, task); !slices.Equal(places, want) {
		t.Errorf("Reached %v, task %d: %v, want %v", l, task, places, want)
	}
}

func mustRaised(t *testing.T, g *graph.Graph, l []api.Request, a, b int, want ...int) {
	t.Helper()
	if tasks := prio.Raised(g, l, a, b); !slices.Equal(tasks, want) {
		t.Errorf("Raised %v, %d to %d: %v, want %v", l, a, b, tasks, want)
	}
}

// O1: the document's example.
func TestTheExample(t *testing.T) {
	g := of(t, 2, edge{0, 1})
	l := []api.Request{want(0, 5), want(1, 2)}
	mustOf(t, g, l, 5, 5)
	mustReached(t, g, l, 0, 0)
	mustReached(t, g, l, 1, 0, 1)
	mustRaised(t, g, l, 0, 1)
	mustRaised(t, g, l, 1, 0)
}

// O1: each task has the greatest of those who wait for it, wherever that one stands in the list.
func TestOfIsTheGreatest(t *testing.T) {
	g := of(t, 5, edge{0, 2}, edge{1, 2}, edge{2, 3})
	for _, x := range []struct {
		l    []api.Request
		want []int
	}{
		{[]api.Request{want(0, 3), want(1, 6)}, []int{3, 6, 6, 6, -1}},
		{[]api.Request{want(1, 6), want(0, 3)}, []int{3, 6, 6, 6, -1}},
		{[]api.Request{want(3, 7), want(0, 3), want(2, 4)}, []int{3, -1, 4, 7, -1}},
		{[]api.Request{want(2, 4), want(3, 1), want(4, 2)}, []int{-1, -1, 4, 4, 2}},
		// Several of one root, and several of one priority.
		{[]api.Request{want(1, 2), want(1, 5), want(1, 3)}, []int{-1, 5, 5, 5, -1}},
		{[]api.Request{want(0, 4), want(1, 4)}, []int{4, 4, 4, 4, -1}},
		// 0 is a priority like others, and above none.
		{[]api.Request{want(0, 0)}, []int{0, -1, 0, 0, -1}},
		{[]api.Request{want(0, 0), want(3, 1)}, []int{0, -1, 0, 1, -1}},
	} {
		mustOf(t, g, x.l, x.want...)
	}
}

// O1: whom nobody waits for has -1, and so has who has no greater one; beyond that any number is a priority.
func TestOfAtTheEdgesOfPriorities(t *testing.T) {
	g := of(t, 3, edge{0, 1})
	for _, x := range []struct{ prio, want int }{
		{math.MinInt, -1}, {-1 << 32, -1}, {-3, -1}, {-2, -1}, {-1, -1},
		{0, 0}, {1, 1}, {7, 7}, {8, 8}, {1 << 20, 1 << 20}, {1 << 32, 1 << 32}, {math.MaxInt, math.MaxInt},
	} {
		l := []api.Request{want(0, x.prio)}
		mustOf(t, g, l, x.want, x.want, -1)
		// It counts, whatever its priority is.
		mustReached(t, g, l, 0, 0)
		mustReached(t, g, l, 1, 0)
		mustReached(t, g, l, 2)
	}
	mustOf(t, g, []api.Request{want(0, -2), want(1, -9), want(2, -1)}, -1, -1, -1)
	mustOf(t, g, []api.Request{want(0, -2), want(1, 0), want(2, -1)}, -1, 0, -1)
	mustOf(t, g, []api.Request{want(0, 1), want(1, -5)}, 1, 1, -1)
}

// O1: no requests.
func TestNoRequests(t *testing.T) {
	g := of(t, 3, edge{0, 1})
	for _, l := range [][]api.Request{nil, {}} {
		mustOf(t, g, l, -1, -1, -1)
		for task := -2; task < 5; task++ {
			mustReached(t, g, l, task)
			for b := -2; b < 5; b++ {
				mustRaised(t, g, l, task, b)
			}
		}
	}
}

// O1, O2: no tasks, and as many as there may be.
func TestNumbersOfTasks(t *testing.T) {
	for _, n := range []int{-1, 0, 1, 2, 63, 64, 70} {
		g := graph.New(n)
		all := []int{}
		for range g.N() {
			all = append(all, -1)
		}
		mustOf(t, g, nil, all...)
		for task := range g.N() {
			all[task] = 4
			mustOf(t, g, []api.Request{want(task, 4)}, all...)
			mustReached(t, g, []api.Request{want(task, 4)}, task, 0)
			all[task] = -1
			if last := g.N() - 1; task < last {
				mustRaised(t, g, []api.Request{want(task, 4)}, task, last, last)
			}
		}
	}
}

// O1: a request whose root is no task does not count; the others keep their places.
func TestRootsThatAreNoTasks(t *testing.T) {
	for _, n := range []int{0, 1, 5, 64} {
		g := graph.New(n)
		var wrong []api.Request
		for _, root := range beyond(n) {
			wrong = append(wrong, want(root, 7))
		}
		none := slices.Repeat([]int{-1}, n)
		mustOf(t, g, wrong, none...)
		for task := range n {
			mustReached(t, g, wrong, task)
			mustRaised(t, g, wrong, task, n-1-task)
		}
		for task := range n {
			l := slices.Concat(wrong, []api.Request{want(task, 2)}, wrong, []api.Request{want(task, 1)})
			prios := slices.Clone(none)
			prios[task] = 2
			mustOf(t, g, l, prios...)
			mustReached(t, g, l, task, len(wrong), 2*len(wrong)+1)
		}
		for _, root := range beyond(n) {
			mustReached(t, g, wrong, root)
		}
	}
}

// O1: Reached tells places, rising, of all that reach the task, be they the same or not, and not of those that it reaches.
func TestReachedTellsPlaces(t *testing.T) {
	g := of(t, 5, edge{4, 2}, edge{2, 0}, edge{2, 1})
	l := []api.Request{want(0, 1), want(4, 0), want(2, 7), want(4, 0), want(9, 3), want(3, 2), want(0, 1)}
	mustReached(t, g, l, 0, 0, 1, 2, 3, 6)
	mustReached(t, g, l, 1, 1, 2, 3)
	mustReached(t, g, l, 2, 1, 2, 3)
	mustReached(t, g, l, 3, 5)
	mustReached(t, g, l, 4, 1, 3)
}

// O1, O2: what is no task is reached by nobody, and raises nobody.
func TestNoTask(t *testing.T) {
	for _, n := range []int{-1, 0, 1, 5, 63, 64, 70} {
		g := graph.New(n)
		l := []api.Request{want(-1, 7), want(g.N(), 6)}
		for task := range g.N() {
			g.Add(task, (task+2)%g.N())
			l = append(l, want(task, task%5))
		}
		for _, wrong := range beyond(g.N()) {
			mustReached(t, g, l, wrong)
			mustRaised(t, g, l, wrong, wrong)
			for task := range g.N() {
				mustRaised(t, g, l, wrong, task)
				mustRaised(t, g, l, task, wrong)
			}
		}
	}
}

// O1: the weight of a request does not matter.
func TestWeightsDoNotMatter(t *testing.T) {
	g := of(t, 2, edge{0, 1})
	for _, weight := range []int{math.MinInt, -1, 0, 1, 100, 101, math.MaxInt} {
		l := []api.Request{{Root: 0, Weight: weight, Prio: 3}, {Root: 1, Weight: -weight, Prio: 1}}
		mustOf(t, g, l, 3, 3)
		mustReached(t, g, l, 1, 0, 1)
		mustRaised(t, g, l, 1, 0)
		mustRaised(t, of(t, 2), l, 0, 1, 1)
	}
}

// O1: circles, and edges to oneself: all of a circle have what one of them has.
func TestOfACircle(t *testing.T) {
	g := of(t, 6, edge{0, 1}, edge{1, 2}, edge{2, 0}, edge{2, 3}, edge{4, 4}, edge{5, 1})
	l := []api.Request{want(1, 3), want(3, 1), want(4, 2), want(5, 0)}
	mustOf(t, g, l, 3, 3, 3, 3, 2, 0)
	for task := range 3 {
		mustReached(t, g, l, task, 0, 3)
	}
	mustReached(t, g, l, 3, 0, 1, 3)
	mustReached(t, g, l, 4, 2)
	mustReached(t, g, l, 5, 3)
	mustRaised(t, g, l, 4, 5, 5)
	mustRaised(t, g, l, 4, 4)
	mustRaised(t, g, l, 1, 4, 4)
	mustRaised(t, g, l, 3, 5, 5)
}

// O1: chains, as long as there may be, whose edges were added from either end.
func TestOfAChain(t *testing.T) {
	for _, turned := range []bool{false, true} {
		var edges []edge
		for i := range 63 {
			edges = append(edges, edge{i, i + 1})
		}
		if turned {
			slices.Reverse(edges)
		}
		g := of(t, 64, edges...)
		l := []api.Request{want(20, 2), want(0, 1), want(40, 1), want(63, 7), want(62, 3)}
		prios := slices.Concat(slices.Repeat([]int{1}, 20), slices.Repeat([]int{2}, 42), []int{3, 7})
		mustOf(t, g, l, prios...)
		mustReached(t, g, l, 19, 1)
		mustReached(t, g, l, 20, 0, 1)
		mustReached(t, g, l, 40, 0, 1, 2)
		mustReached(t, g, l, 63, 0, 1, 2, 3, 4)
		// To the beginning of the chain, which goes on to those that have less.
		var below []int
		for task := range 62 {
			below = append(below, task)
		}
		mustRaised(t, g, l, 63, 0, append(below, 62)...)
		mustRaised(t, g, l, 62, 0, below...)
		mustRaised(t, g, l, 40, 0, below[:20]...)
		mustRaised(t, g, l, 19, 0)
	}
}

// O2: who is raised: the end of the edge and all that it reaches, but for those that have as much.
func TestRaised(t *testing.T) {
	g := of(t, 7, edge{1, 4}, edge{1, 2}, edge{4, 5}, edge{2, 5}, edge{0, 6})
	l := []api.Request{want(0, 4), want(1, 2), want(2, 4), want(4, 3), want(3, 7)}
	mustOf(t, g, l, 4, 2, 4, 7, 3, 4, 4)
	mustRaised(t, g, l, 0, 1, 1, 4)
	mustRaised(t, g, l, 3, 1, 1, 2, 4, 5)
	mustRaised(t, g, l, 3, 0, 0, 6)
	mustRaised(t, g, l, 3, 5, 5)
	mustRaised(t, g, l, 6, 1, 1, 4)
	// Not by one that has as much, or less, and not by one that nobody waits for.
	mustRaised(t, g, l, 0, 2)
	mustRaised(t, g, l, 0, 5)
	mustRaised(t, g, l, 1, 0)
	mustRaised(t, g, l, 1, 3)
	mustRaised(t, g, l[:1], 1, 0)
	mustRaised(t, g, l[:1], 0, 1, 1, 2, 4, 5)
	// An edge that is there already, and one to oneself.
	mustRaised(t, g, l, 0, 6)
	mustRaised(t, g, l, 1, 4)
	for task := range 7 {
		mustRaised(t, g, l, task, task)
	}
}

// O2: an edge that closes a circle raises all of it, and what is behind it, but not who it begins with.
func TestRaisedByACircle(t *testing.T) {
	g := of(t, 5, edge{0, 1}, edge{1, 2}, edge{1, 3}, edge{4, 0})
	l := []api.Request{want(0, 1), want(2, 6)}
	mustOf(t, g, l, 1, 1, 6, 1, -1)
	mustRaised(t, g, l, 2, 0, 0, 1, 3)
	mustRaised(t, g, l, 2, 1, 1, 3)
	mustRaised(t, g, l, 2, 4, 0, 1, 3, 4)
	mustRaised(t, g, l, 3, 0)
	mustRaised(t, g, l, 3, 4, 4)
}

// O2: priorities at their edges: who has a greater one raises, one below -1 does not.
func TestRaisedAtTheEdgesOfPriorities(t *testing.T) {
	g := graph.New(2)
	for _, x := range []struct {
		prio, other int
		raised      bool
	}{
		{math.MinInt, -1, false}, {-2, -3, false}, {-1, -2, false}, {-1, math.MinInt, false},
		{0, -1, true}, {0, math.MinInt, true}, {0, 0, false}, {1, 0, true}, {0, 1, false},
		{7, 6, true}, {7, 7, false}, {8, 7, true}, {math.MaxInt, math.MinInt, true}, {math.MaxInt, math.MaxInt - 1, true}, {math.MaxInt, math.MaxInt, false},
	} {
		l := []api.Request{want(0, x.prio), want(1, x.other)}
		if x.raised {
			mustRaised(t, g, l, 0, 1, 1)
		} else {
			mustRaised(t, g, l, 0, 1)
		}
	}
}

// R2: where there is no graph there are no tasks, and nothing panics.
func TestNoGraph(t *testing.T) {
	for _, g := range []*graph.Graph{nil, {}, graph.New(0), graph.New(-5)} {
		for _, l := range [][]api.Request{nil, {want(0, 5)}, {want(-1, 5), want(math.MaxInt, 1)}} {
			mustOf(t, g, l)
			mustReached(t, g, l, 0)
			mustReached(t, g, l, -1)
			mustRaised(t, g, l, 0, 0)
			mustRaised(t, g, l, -1, 3)
		}
	}
}

// told is all that a graph tells of itself.
func told(g *graph.Graph) [][]int {
	rows := [][]int{{g.N(), g.Len()}}
	for a := range g.N() {
		rows = append(rows, g.Out(a), g.In(a), g.Reach(a))
	}
	return rows
}

// R1: what is handed in stays as it was, and is not kept; what is answered is the caller's own.
func TestArgumentsAndAnswers(t *testing.T) {
	g := of(t, 5, edge{0, 1}, edge{1, 2}, edge{3, 1})
	l := []api.Request{want(2, 1), want(0, 2), want(7, 7), want(3, 5), want(4, 7)}
	graphAhead, listAhead := told(g), slices.Clone(l)
	for i, call := range []func() []int{
		func() []int { return prio.Of(g, l) },
		func() []int { return prio.Reached(g, l, 2) },
		func() []int { return prio.Raised(g, l, 4, 0) },
		func() []int { return prio.Raised(g, l, 0, 3) },
	} {
		row, again := call(), call()
		kept := slices.Clone(again)
		for i := range row[:cap(row)] {
			row[:cap(row)][i] = 77
		}
		if !slices.Equal(again, kept) || !slices.Equal(call(), kept) {
			t.Errorf("call %d: %v became %v, and then %v, as another answer was written over", i, kept, again, call())
		}
	}
	if behind := told(g); !reflect.DeepEqual(graphAhead, behind) {
		t.Errorf("the graph: %v became %v", graphAhead, behind)
	}
	if !slices.Equal(listAhead, l) {
		t.Errorf("the list: %v became %v", listAhead, l)
	}
	// Answers stay as they were, and new ones go by what is there now.
	prios, places, tasks := prio.Of(g, l), prio.Reached(g, l, 2), prio.Raised(g, l, 4, 0)
	g.Add(4, 0)
	l[0].Root = 1
	if !slices.Equal(prios, []int{2, 5, 5, 5, 7}) || !slices.Equal(places, []int{0, 1, 3}) || !slices.Equal(tasks, []int{0, 1, 2}) {
		t.Error(prios, places, tasks)
	}
	mustOf(t, g, l, 7, 7, 7, 5, 7)
	mustReached(t, g, l, 1, 0, 1, 3, 4)
	mustRaised(t, g, l, 4, 0)
}

// model is a second telling: by who has an edge to whom alone.
type model [][]bool

func newModel(n int, edges []edge) model {
	m := make(model, n)
	for a := range m {
		m[a] = make([]bool, n)
	}
	for _, e := range edges {
		m[e.from][e.to] = true
	}
	return m
}

// reach is who reaches whom.
func (m model) reach() model {
	r := make(model, len(m))
	for a := range m {
		r[a] = slices.Clone(m[a])
		r[a][a] = true
	}
	for by := range r {
		for a := range r {
			for b := range r {
				r[a][b] = r[a][b] || r[a][by] && r[by][b]
			}
		}
	}
	return r
}

// reached is the places of the requests that reach a task, by who reaches whom.
func (m model) reached(l []api.Request, task int) []int {
	var places []int
	for place, request := range l {
		if request.Root >= 0 && request.Root < len(m) && m[request.Root][task] {
			places = append(places, place)
		}
	}
	return places
}

// prios is the priority of each task, by who reaches whom.
func (m model) prios(l []api.Request) []int {
	var prios []int
	for task := range m {
		greatest := -1
		for _, place := range m.reached(l, task) {
			if l[place].Prio > greatest {
				greatest = l[place].Prio
			}
		}
		prios = append(prios, greatest)
	}
	return prios
}

// raised is the tasks whose priority is another one with an edge from a to b.
func (m model) raised(l []api.Request, a, b int) []int {
	with := make(model, len(m))
	for from := range m {
		with[from] = slices.Clone(m[from])
	}
	with[a][b] = true
	ahead, behind := m.reach().prios(l), with.reach().prios(l)
	var tasks []int
	for task := range m {
		if ahead[task] != behind[task] {
			tasks = append(tasks, task)
		}
	}
	return tasks
}

// mustBe holds all answers against the second telling's, and what follows.
func mustBe(t *testing.T, g *graph.Graph, m model, l []api.Request) {
	t.Helper()
	reach := m.reach()
	prios := reach.prios(l)
	mustOf(t, g, l, prios...)
	for a := range m {
		mustReached(t, g, l, a, reach.reached(l, a)...)
		for b := range m {
			mustRaised(t, g, l, a, b, m.raised(l, a, b)...)
			if m[a][b] && prios[b] < prios[a] {
				t.Errorf("%v: %d waits for %d, which has not as much", prios, a, b)
			}
		}
	}
	if t.Failed() {
		t.Fatalf("edges %v, requests %v", m, l)
	}
}

// edgesOf is the edges between n tasks that a number's bits say.
func edgesOf(n, bits int) []edge {
	var edges []edge
	for i := range n * n {
		if bits>>i&1 == 1 {
			edges = append(edges, edge{i / n, i % n})
		}
	}
	return edges
}

// O1, O2: all graphs of up to three tasks, with all lists of up to two requests of few roots and priorities.
func TestAllSmallGraphs(t *testing.T) {
	for n := range 4 {
		var pool []api.Request
		for root := -1; root <= n; root++ {
			for _, p := range []int{-2, 0, 3} {
				pool = append(pool, want(root, p))
			}
		}
		lists := [][]api.Request{nil}
		for _, one := range pool {
			lists = append(lists, []api.Request{one})
			for _, other := range pool {
				lists = append(lists, []api.Request{one, other})
			}
		}
		step := 1
		if n == 3 {
			step = 7 // of the most graphs each has every seventh list, from another one on
		}
		for bits := range 1 << (n * n) {
			edges := edgesOf(n, bits)
			g, m := of(t, n, edges...), newModel(n, edges)
			for i := bits % step; i < len(lists); i += step {
				mustBe(t, g, m, lists[i])
			}
		}
	}
}

// O1, O2: graphs of many sizes that grow edge by edge, with lists that grow, too; an edge raises whom Raised said.
func TestGraphsThatGrow(t *testing.T) {
	for _, n := range []int{2, 5, 9, 17} {
		g := graph.New(n)
		var edges []edge
		var l []api.Request
		for i := range min(n*n, 60) {
			// Steps of primes: far from any order of size.
			at := i * 7919 % (n * n)
			e := edge{at / n, at % n}
			l = append(l, want(i*31%(n+2)-1, i*17%11-2))
			ahead, raised := prio.Of(g, l), prio.Raised(g, l, e.from, e.to)
			g.Add(e.from, e.to)
			edges = append(edges, e)
			for task, p := range prio.Of(g, l) {
				if (p != ahead[task]) != slices.Contains(raised, task) || p < ahead[task] {
					t.Fatalf("%v: task %d had %d, and has %d; raised: %v", e, task, ahead[task], p, raised)
				}
			}
			if i%4 == 0 {
				mustBe(t, g, newModel(n, edges), l)
			}
		}
	}
}

// O1, O2: as many tasks as there may be, and long lists.
func TestManyTasksAndRequests(t *testing.T) {
	var edges []edge
	for i := range 90 {
		edges = append(edges, edge{i * 29 % 64, i * 37 % 61})
	}
	slices.SortFunc(edges, func(a, b edge) int { return a.from*64 + a.to - b.from*64 - b.to })
	edges = slices.Compact(edges)
	g, m := of(t, 64, edges...), newModel(64, edges)
	var l []api.Request
	for i := range 500 {
		l = append(l, want(i*i%71-3, i*13%9-1))
	}
	reach := m.reach()
	for _, some := range [][]api.Request{l[:5], l[:20], l} {
		mustOf(t, g, some, reach.prios(some)...)
		for task := range 64 {
			mustReached(t, g, some, task, reach.reached(some, task)...)
		}
		for i := range 24 {
			a, b := i*11%64, i*23%59
			mustRaised(t, g, some, a, b, m.raised(some, a, b)...)
		}
	}
}

// R4: the same calls have the same answers.
func TestSameCallsSameAnswers(t *testing.T) {
	edges := []edge{{3, 1}, {1, 2}, {0, 3}, {4, 4}}
	g, h := of(t, 5, edges...), of(t, 5, edges...)
	l := []api.Request{want(2, 1), want(0, 2), want(3, 5), want(4, 7)}
	for range 3 {
		if !slices.Equal(prio.Of(g, l), prio.Of(h, l)) || !slices.Equal(prio.Reached(g, l, 2), prio.Reached(h, l, 2)) || !slices.Equal(prio.Raised(g, l, 4, 0), prio.Raised(h, l, 4, 0)) {
			t.Error("unlike answers")
		}
	}
}
