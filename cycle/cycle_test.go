package cycle_test

import (
	"math"
	"reflect"
	"slices"
	"testing"

	"millwright/api"
	"millwright/cycle"
	"millwright/graph"
)

type edge struct{ from, to int }

// of is a graph of n tasks with these edges, all of which are new.
func of(t *testing.T, n int, edges ...edge) *graph.Graph {
	t.Helper()
	g := graph.New(n)
	for _, e := range edges {
		if is, err := g.Add(e.from, e.to); !is || err != api.OK {
			t.Fatalf("Add(%d, %d) of %d tasks: %v %v", e.from, e.to, n, is, err)
		}
	}
	return g
}

// beyond is ids that are no task of a graph of n tasks.
func beyond(n int) []int {
	return []int{-1, -2, -64, -n - 1, n, n + 1, n + 64, n + 1<<32, 64, 65, 128, 1 << 32, -1 << 32, math.MaxInt, math.MinInt}
}

func mustPath(t *testing.T, g *graph.Graph, from, to int, want ...int) {
	t.Helper()
	if l := cycle.Path(g, from, to); !slices.Equal(l, want) {
		t.Errorf("Path(%d, %d): %v, want %v", from, to, l, want)
	}
}

func mustClose(t *testing.T, g *graph.Graph, a, b int, want ...int) {
	t.Helper()
	if l := cycle.Closes(g, a, b); !slices.Equal(l, want) {
		t.Errorf("Closes(%d, %d): %v, want %v", a, b, l, want)
	}
}

// mustOrder asks for the order of a graph that has one, and none of whose tasks is on a circle.
func mustOrder(t *testing.T, g *graph.Graph, want ...int) {
	t.Helper()
	if l, ok := cycle.Order(g); !ok || !slices.Equal(l, want) {
		t.Errorf("Order: %v %v, want %v true", l, ok, want)
	}
	if l := cycle.On(g); len(l) != 0 {
		t.Errorf("On: %v, want none", l)
	}
}

// mustOn asks who is on a circle of a graph that has one, and so no order.
func mustOn(t *testing.T, g *graph.Graph, want ...int) {
	t.Helper()
	if l := cycle.On(g); !slices.Equal(l, want) {
		t.Errorf("On: %v, want %v", l, want)
	}
	if l, ok := cycle.Order(g); ok || len(l) != 0 {
		t.Errorf("Order: %v %v, want none and false", l, ok)
	}
}

// F1: from and to the same: that task alone, whatever edges it has.
func TestPathToOneself(t *testing.T) {
	for _, edges := range [][]edge{nil, {{1, 1}}, {{0, 1}, {1, 0}}, {{1, 2}, {2, 2}, {2, 1}}} {
		g := of(t, 3, edges...)
		for a := range 3 {
			mustPath(t, g, a, a, a)
			mustClose(t, g, a, a, a)
		}
	}
	g := graph.New(64)
	for a := range 64 {
		mustPath(t, g, a, a, a)
		mustClose(t, g, a, a, a)
	}
}

// F1: none, if one, or both, is no task; below 0, and from N on.
func TestPathOfNoTask(t *testing.T) {
	for _, n := range []int{-1, 0, 1, 5, 63, 64, 70} {
		g := graph.New(n)
		for a := range g.N() {
			g.Add(a, (a+1)%g.N())
		}
		for _, wrong := range beyond(g.N()) {
			mustPath(t, g, wrong, wrong)
			mustClose(t, g, wrong, wrong)
			for a := range g.N() {
				mustPath(t, g, a, wrong)
				mustPath(t, g, wrong, a)
				mustClose(t, g, a, wrong)
				mustClose(t, g, wrong, a)
			}
		}
	}
}

// F1: one edge, the one way; and none, if it is not reached.
func TestPathOfOneEdge(t *testing.T) {
	g := of(t, 4, edge{2, 1})
	mustPath(t, g, 2, 1, 2, 1)
	mustClose(t, g, 1, 2, 2, 1)
	mustPath(t, g, 1, 2)
	mustClose(t, g, 2, 1)
	mustPath(t, g, 2, 3)
	mustPath(t, g, 3, 2)
	mustPath(t, g, 0, 1)
	mustClose(t, g, 0, 3)
}

// F1: tasks that both lead to a third one, or come from one, do not reach each other.
func TestPathGoesOneWay(t *testing.T) {
	g := of(t, 5, edge{0, 2}, edge{1, 2}, edge{2, 3}, edge{2, 4})
	mustPath(t, g, 0, 1)
	mustPath(t, g, 3, 4)
	mustPath(t, g, 4, 0)
	mustPath(t, g, 1, 4, 1, 2, 4)
	mustClose(t, g, 4, 1, 1, 2, 4)
	mustClose(t, g, 1, 4)
}

// F1: chains, whose edges were added from either end, as long as there may be.
func TestPathOfAChain(t *testing.T) {
	for _, turned := range []bool{false, true} {
		edges := []edge{}
		all := []int{0}
		for i := range 63 {
			edges = append(edges, edge{i, i + 1})
			all = append(all, i+1)
		}
		if turned {
			slices.Reverse(edges)
		}
		g := of(t, 64, edges...)
		for a := range 64 {
			for b := range 64 {
				if a <= b {
					mustPath(t, g, a, b, all[a:b+1]...)
					mustClose(t, g, b, a, all[a:b+1]...)
				} else {
					mustPath(t, g, a, b)
					mustClose(t, g, b, a)
				}
			}
		}
	}
}

// F1: of two paths of unlike length the one with the fewest tasks, whichever edge was added first and whichever number is less.
func TestPathHasTheFewestTasks(t *testing.T) {
	for _, x := range []struct {
		edges []edge
		want  []int // from 0 to 5
	}{
		{[]edge{{0, 1}, {1, 2}, {2, 5}, {0, 5}}, []int{0, 5}},
		{[]edge{{0, 5}, {0, 1}, {1, 2}, {2, 5}}, []int{0, 5}},
		{[]edge{{0, 1}, {1, 2}, {2, 5}, {0, 4}, {4, 5}}, []int{0, 4, 5}},
		{[]edge{{4, 5}, {0, 4}, {0, 1}, {1, 2}, {2, 5}}, []int{0, 4, 5}},
		{[]edge{{0, 4}, {4, 3}, {3, 5}, {0, 1}, {1, 5}}, []int{0, 1, 5}},
		{[]edge{{0, 1}, {1, 2}, {2, 3}, {3, 5}, {1, 4}, {4, 5}}, []int{0, 1, 4, 5}},
		{[]edge{{0, 1}, {0, 2}, {1, 3}, {3, 4}, {4, 5}, {2, 4}}, []int{0, 2, 4, 5}},
	} {
		g := of(t, 6, x.edges...)
		mustPath(t, g, 0, 5, x.want...)
		mustClose(t, g, 5, 0, x.want...)
	}
}

// F1: several of one length that differ at the second task: the earliest in Out counts, not the least number, and not how early the edges behind it were added.
func TestPathTakesTheEarliestSecondTask(t *testing.T) {
	for _, x := range []struct {
		edges []edge
		want  []int // from 0 to 4
	}{
		{[]edge{{0, 3}, {0, 1}, {0, 2}, {1, 4}, {2, 4}, {3, 4}}, []int{0, 3, 4}},
		{[]edge{{0, 2}, {0, 3}, {0, 1}, {1, 4}, {3, 4}, {2, 4}}, []int{0, 2, 4}},
		{[]edge{{3, 4}, {1, 4}, {2, 4}, {0, 1}, {0, 2}, {0, 3}}, []int{0, 1, 4}},
		{[]edge{{1, 4}, {2, 4}, {3, 4}, {0, 2}, {0, 1}}, []int{0, 2, 4}},
		// The one that was added first leads nowhere.
		{[]edge{{0, 1}, {0, 3}, {0, 2}, {2, 4}, {3, 4}}, []int{0, 3, 4}},
	} {
		g := of(t, 5, x.edges...)
		mustPath(t, g, 0, 4, x.want...)
		mustClose(t, g, 4, 0, x.want...)
	}
}

// F1: several of one length that differ at a later task; the first difference counts, not a later one.
func TestPathTakesTheEarliestLaterTask(t *testing.T) {
	for _, x := range []struct {
		edges []edge
		want  []int // from 0 to 7
	}{
		// Behind 1 the edge to 5 was added ahead of the one to 4.
		{[]edge{{0, 1}, {1, 5}, {1, 4}, {4, 7}, {5, 7}}, []int{0, 1, 5, 7}},
		{[]edge{{4, 7}, {5, 7}, {1, 4}, {1, 5}, {0, 1}}, []int{0, 1, 4, 7}},
		// At the second task 2 is ahead of 1, so that it does not matter that 1 has the earlier edges.
		{[]edge{{1, 3}, {1, 4}, {0, 2}, {0, 1}, {2, 6}, {2, 5}, {3, 7}, {4, 7}, {5, 7}, {6, 7}}, []int{0, 2, 6, 7}},
		// 1 and 2 both lead to 3 and to 4: who goes by 1 goes on by what 1 says.
		{[]edge{{0, 1}, {0, 2}, {2, 3}, {2, 4}, {1, 4}, {1, 3}, {3, 7}, {4, 7}}, []int{0, 1, 4, 7}},
		// 2 leads to the end earlier, but 1 does so by as many tasks.
		{[]edge{{0, 1}, {0, 2}, {2, 3}, {3, 7}, {1, 5}, {5, 7}}, []int{0, 1, 5, 7}},
		// Three steps on.
		{[]edge{{0, 1}, {1, 2}, {2, 6}, {2, 3}, {2, 5}, {3, 7}, {5, 7}, {6, 7}}, []int{0, 1, 2, 6, 7}},
	} {
		g := of(t, 8, x.edges...)
		mustPath(t, g, 0, 7, x.want...)
		mustClose(t, g, 7, 0, x.want...)
	}
}

// F1: an edge that is added again keeps its place, and so does the path.
func TestPathWhereAnEdgeIsAddedAgain(t *testing.T) {
	g := of(t, 4, edge{0, 2}, edge{0, 1}, edge{1, 3}, edge{2, 3})
	g.Add(0, 1)
	g.Add(0, 2)
	mustPath(t, g, 0, 3, 0, 2, 3)
}

// F1: circles, and edges to oneself, on the way: no task stands twice.
func TestPathPastCircles(t *testing.T) {
	g := of(t, 6, edge{0, 0}, edge{0, 1}, edge{1, 0}, edge{1, 1}, edge{1, 2}, edge{2, 1}, edge{2, 2}, edge{2, 3}, edge{3, 0}, edge{3, 3}, edge{3, 4}, edge{4, 4})
	mustPath(t, g, 0, 4, 0, 1, 2, 3, 4)
	mustPath(t, g, 3, 2, 3, 0, 1, 2)
	mustPath(t, g, 2, 0, 2, 1, 0)
	mustPath(t, g, 1, 4, 1, 2, 3, 4)
	mustPath(t, g, 4, 0)
	mustPath(t, g, 0, 5)
	mustClose(t, g, 4, 0, 0, 1, 2, 3, 4)
	mustClose(t, g, 0, 4)
}

// F1: the circle that an edge would close, and of edges that close none, that go to their own task, or that are there already.
func TestCloses(t *testing.T) {
	g := of(t, 5, edge{0, 1}, edge{1, 2}, edge{3, 3})
	mustClose(t, g, 1, 0, 0, 1)
	mustClose(t, g, 2, 1, 1, 2)
	mustClose(t, g, 0, 2)
	mustClose(t, g, 0, 3)
	mustClose(t, g, 4, 2)
	mustClose(t, g, 4, 4, 4)
	mustClose(t, g, 3, 3, 3)
	// They are there already: the one closes none, and the others do.
	mustClose(t, g, 0, 1)
	if is, err := g.Add(2, 0); !is || err != api.OK {
		t.Fatal(is, err)
	}
	mustClose(t, g, 2, 0, 0, 1, 2)
	mustClose(t, g, 0, 1, 1, 2, 0)
	mustClose(t, g, 1, 2, 2, 0, 1)
	// To ask adds no edge.
	if g.Len() != 4 || g.Has(4, 4) || g.Has(1, 0) {
		t.Error(g.Len(), g.Has(4, 4), g.Has(1, 0))
	}
}

// F1, F2: the document's example.
func TestTheExample(t *testing.T) {
	g := of(t, 3, edge{0, 1}, edge{1, 2})
	mustClose(t, g, 2, 0, 0, 1, 2)
	mustPath(t, g, 0, 2, 0, 1, 2)
	mustOrder(t, g, 2, 1, 0)
}

// F2: no tasks, and no edges.
func TestNoTasksAndNoEdges(t *testing.T) {
	mustOrder(t, graph.New(0))
	mustOrder(t, graph.New(-3))
	all := []int{}
	for n := 1; n <= 64; n++ {
		all = append(all, n-1)
		mustOrder(t, graph.New(n), all...)
	}
	mustOrder(t, graph.New(65), all...)
}

// R2: where there is no graph there are no tasks, and nothing panics.
func TestNoGraph(t *testing.T) {
	mustPath(t, nil, 0, 0)
	mustPath(t, nil, -1, 3)
	mustClose(t, nil, 0, 0)
	mustOrder(t, nil)
	mustOrder(t, &graph.Graph{})
	mustPath(t, &graph.Graph{}, 0, 0)
}

// F2: who has an edge to themselves is on a circle, those around them are not.
func TestOnOfAnEdgeToOneself(t *testing.T) {
	mustOn(t, of(t, 1, edge{0, 0}), 0)
	mustOn(t, of(t, 4, edge{0, 2}, edge{2, 2}, edge{2, 3}), 2)
	mustOn(t, of(t, 64, edge{63, 63}, edge{0, 0}), 0, 63)
}

// F2: circles of two and more, told rising, with tasks that lead into one, out of one, or from one to another, and are on none.
func TestOnCircles(t *testing.T) {
	mustOn(t, of(t, 2, edge{1, 0}, edge{0, 1}), 0, 1)
	mustOn(t, of(t, 6, edge{4, 1}, edge{1, 3}, edge{3, 4}), 1, 3, 4)
	// 0 leads into the circle, 5 out of it, and 2 is apart.
	mustOn(t, of(t, 6, edge{0, 4}, edge{4, 1}, edge{1, 3}, edge{3, 4}, edge{3, 5}), 1, 3, 4)
	// Two circles, and 3 on the way from the one to the other.
	mustOn(t, of(t, 7, edge{6, 5}, edge{5, 6}, edge{5, 3}, edge{3, 1}, edge{1, 0}, edge{0, 1}, edge{2, 6}, edge{0, 4}), 0, 1, 5, 6)
	// Two circles that have a task in common.
	mustOn(t, of(t, 6, edge{2, 0}, edge{0, 2}, edge{2, 4}, edge{4, 5}, edge{5, 2}, edge{5, 3}), 0, 2, 4, 5)
	// One of all tasks.
	var edges []edge
	var all []int
	for i := range 64 {
		edges = append(edges, edge{i, (i + 63) % 64})
		all = append(all, i)
	}
	mustOn(t, of(t, 64, edges...), all...)
	mustOrder(t, of(t, 64, edges[1:]...), all...)
}

// F2: tasks that are reached by two ways are on no circle.
func TestTwoWaysAreNoCircle(t *testing.T) {
	mustOrder(t, of(t, 4, edge{0, 1}, edge{0, 2}, edge{1, 3}, edge{2, 3}), 3, 1, 2, 0)
	mustOrder(t, of(t, 3, edge{0, 2}, edge{0, 1}, edge{1, 2}), 2, 1, 0)
}

// F2: each stands behind all that it has an edge to; of several that may stand next always the least one, also one that could not a step ago.
func TestOrder(t *testing.T) {
	for _, x := range []struct {
		n     int
		edges []edge
		want  []int
	}{
		{2, []edge{{0, 1}}, []int{1, 0}},
		{2, []edge{{1, 0}}, []int{0, 1}},
		{4, []edge{{0, 3}}, []int{1, 2, 3, 0}},
		// 0 may stand from 1 on, ahead of 2 and 3, which could stand all along.
		{4, []edge{{0, 1}}, []int{1, 0, 2, 3}},
		{6, []edge{{0, 2}, {0, 1}, {1, 3}, {2, 3}, {3, 4}}, []int{4, 3, 1, 2, 0, 5}},
		{6, []edge{{1, 5}, {0, 1}, {2, 4}}, []int{3, 4, 2, 5, 1, 0}},
		{5, []edge{{2, 4}, {2, 0}, {4, 3}}, []int{0, 1, 3, 4, 2}},
		// Not by the order in which edges were added.
		{5, []edge{{4, 3}, {4, 1}, {4, 0}, {4, 2}}, []int{0, 1, 2, 3, 4}},
		{5, []edge{{3, 4}, {1, 4}, {0, 4}, {2, 4}}, []int{4, 0, 1, 2, 3}},
	} {
		mustOrder(t, of(t, x.n, x.edges...), x.want...)
	}
}

// F2: as many edges as a graph without circles can have, up and down.
func TestOrderOfAllEdges(t *testing.T) {
	up, down := graph.New(64), graph.New(64)
	var rising []int
	for a := range 64 {
		rising = append(rising, a)
		for b := range a {
			up.Add(b, a)
			down.Add(a, b)
		}
	}
	mustOrder(t, down, rising...)
	slices.Reverse(rising)
	mustOrder(t, up, rising...)
	up.Add(63, 31)
	mustOn(t, up, slices.Sorted(slices.Values(rising[:33]))...)
}

// tell is all that a graph tells of its edges.
func tell(g *graph.Graph) [][]int {
	rows := [][]int{{g.N(), g.Len()}}
	for a := range g.N() {
		rows = append(rows, g.Out(a), g.In(a), g.Reach(a))
	}
	return rows
}

// R1: what is handed back is the caller's own, and the graph stays as it was.
func TestAnswersAreTheCallers(t *testing.T) {
	straight := of(t, 5, edge{0, 2}, edge{0, 1}, edge{1, 3}, edge{2, 3})
	round := of(t, 5, edge{0, 2}, edge{2, 1}, edge{1, 0}, edge{4, 4})
	for _, g := range []*graph.Graph{straight, round} {
		ahead := tell(g)
		for i, call := range []func() []int{
			func() []int { return cycle.Path(g, 0, 1) },
			func() []int { return cycle.Path(g, 0, 0) },
			func() []int { return cycle.Closes(g, 1, 0) },
			func() []int { return cycle.On(g) },
			func() []int { l, _ := cycle.Order(g); return l },
		} {
			row, again := call(), call()
			kept := slices.Clone(again)
			for i := range row[:cap(row)] {
				row[:cap(row)][i] = 77
			}
			if !slices.Equal(again, kept) || !slices.Equal(call(), kept) {
				t.Errorf("call %d: %v became %v, and then %v, as another answer was written over", i, kept, again, call())
			}
		}
		if behind := tell(g); !reflect.DeepEqual(ahead, behind) {
			t.Errorf("%v became %v", ahead, behind)
		}
	}
}

// R1: nothing of a graph is kept: answers stay as they were while it goes on, and then are those of what it has become.
func TestNothingIsKept(t *testing.T) {
	g := of(t, 4, edge{0, 1}, edge{1, 2}, edge{2, 3})
	path, closes := cycle.Path(g, 0, 3), cycle.Closes(g, 2, 0)
	order, _ := cycle.Order(g)
	g.Add(0, 3)
	mustPath(t, g, 0, 3, 0, 3)
	mustOrder(t, g, 3, 2, 1, 0)
	g.Add(2, 0)
	mustOn(t, g, 0, 1, 2)
	if !slices.Equal(path, []int{0, 1, 2, 3}) || !slices.Equal(closes, []int{0, 1, 2}) || !slices.Equal(order, []int{3, 2, 1, 0}) {
		t.Error(path, closes, order)
	}
}

// allPaths is each path from the end of one on that has no task twice, to a task: a second telling.
func allPaths(g *graph.Graph, path []int, to int) [][]int {
	last := path[len(path)-1]
	if last == to {
		return [][]int{slices.Clone(path)}
	}
	var all [][]int
	for _, next := range g.Out(last) {
		if !slices.Contains(path, next) {
			all = append(all, allPaths(g, append(slices.Clone(path), next), to)...)
		}
	}
	return all
}

// places is where each task of a path, from the second one on, stands in Out of the one ahead.
func places(g *graph.Graph, path []int) []int {
	var l []int
	for i := range len(path) - 1 {
		l = append(l, slices.Index(g.Out(path[i]), path[i+1]))
	}
	return l
}

func bestPath(g *graph.Graph, from, to int) []int {
	var best []int
	for _, p := range allPaths(g, []int{from}, to) {
		if best == nil || len(p) < len(best) || len(p) == len(best) && slices.Compare(places(g, p), places(g, best)) < 0 {
			best = p
		}
	}
	return best
}

// orders is each row of all tasks in which every one stands behind all that it has an edge to, by size of the first difference.
func orders(g *graph.Graph, begun []int) [][]int {
	if len(begun) == g.N() {
		return [][]int{slices.Clone(begun)}
	}
	var all [][]int
	for a := range g.N() {
		fits := !slices.Contains(begun, a)
		for _, b := range g.Out(a) {
			fits = fits && slices.Contains(begun, b)
		}
		if fits {
			all = append(all, orders(g, append(slices.Clone(begun), a))...)
		}
	}
	return all
}

// onCircle is who comes back to themselves by one edge and more.
func onCircle(g *graph.Graph) []int {
	var on []int
	for a := range g.N() {
		found, grown := g.Out(a), true
		for grown {
			grown = false
			for _, b := range found {
				for _, c := range g.Out(b) {
					if !slices.Contains(found, c) {
						found, grown = append(found, c), true
					}
				}
			}
		}
		if slices.Contains(found, a) {
			on = append(on, a)
		}
	}
	return on
}

func mustBe(t *testing.T, g *graph.Graph) {
	t.Helper()
	for a := range g.N() {
		for b := range g.N() {
			want := bestPath(g, a, b)
			mustPath(t, g, a, b, want...)
			mustClose(t, g, b, a, want...)
		}
	}
	if all := orders(g, nil); len(all) > 0 {
		mustOrder(t, g, all[0]...)
	} else {
		mustOn(t, g, onCircle(g)...)
	}
}

// stepped is a row in another order: by steps of a number that has no divisor in common with its length.
func stepped(l []edge, step int) []edge {
	var out []edge
	for i := range l {
		out = append(out, l[i*step%len(l)])
	}
	return out
}

// F1, F2: all graphs of up to three tasks, and all of four whose tasks have no edge to themselves, their edges added in several orders, held against the second telling.
func TestAllSmallGraphs(t *testing.T) {
	for n := range 5 {
		var pairs []edge
		for a := range n {
			for b := range n {
				if n < 4 || a != b {
					pairs = append(pairs, edge{a, b})
				}
			}
		}
		for bits := range 1 << len(pairs) {
			for _, step := range []int{1, 5, 7, 11} {
				var edges []edge
				for i, e := range pairs {
					if bits>>i&1 == 1 {
						edges = append(edges, e)
					}
				}
				if len(edges)%step == 0 && step > 1 {
					slices.Reverse(edges)
				} else {
					edges = stepped(edges, step)
				}
				mustBe(t, of(t, n, edges...))
			}
			if t.Failed() {
				t.Fatalf("%d tasks, edges %b of %v", n, bits, pairs)
			}
		}
	}
}

// F1, F2: graphs of up to seven tasks that grow edge by edge, held against the second telling.
func TestGraphsThatGrow(t *testing.T) {
	for n := 4; n <= 7; n++ {
		for _, step := range []int{11, 17, 31, 37} {
			g := graph.New(n)
			for i := range min(n*n, 18) {
				at := i * step % (n * n)
				g.Add(at/n, at%n)
				mustBe(t, g)
			}
			if t.Failed() {
				t.Fatalf("%d tasks, step %d", n, step)
			}
		}
	}
}

// What follows: an edge that closes no circle leaves the order there is; one that closes some puts all of these on one.
func TestAnEdgeThatClosesNoCircle(t *testing.T) {
	for _, n := range []int{2, 5, 9, 33, 64} {
		g := graph.New(n)
		for i := range min(n*n, 300) {
			at := i * 7919 % (n * n)
			a, b := at/n, at%n
			circle := cycle.Closes(g, a, b)
			if len(circle) == 0 {
				g.Add(a, b)
				order, ok := cycle.Order(g)
				if !ok || len(order) != n || len(cycle.On(g)) != 0 {
					t.Fatalf("%d tasks: %d to %d closes none, and left %v %v", n, a, b, order, ok)
				}
				continue
			}
			other := graph.New(n)
			for x := range n {
				for _, y := range g.Out(x) {
					other.Add(x, y)
				}
			}
			other.Add(a, b)
			on := cycle.On(other)
			for i, x := range circle {
				if !slices.Contains(on, x) || !other.Has(x, circle[(i+1)%len(circle)]) {
					t.Fatalf("%d tasks: %d to %d closes %v, and %v are on a circle", n, a, b, circle, on)
				}
			}
			if _, ok := cycle.Order(other); ok {
				t.Fatalf("%d tasks: %d to %d closes %v, and there is an order", n, a, b, circle)
			}
		}
	}
}

// R4: the same calls have the same answers, whichever graph of the same edges is asked, and how often.
func TestSameCallsSameAnswers(t *testing.T) {
	edges := []edge{{3, 1}, {1, 4}, {0, 3}, {2, 0}, {2, 1}}
	g, h := of(t, 5, edges...), of(t, 5, edges...)
	for range 3 {
		for _, x := range []*graph.Graph{g, h} {
			mustPath(t, x, 2, 4, 2, 1, 4)
			mustClose(t, x, 4, 0, 0, 3, 1, 4)
			mustOrder(t, x, 4, 1, 3, 0, 2)
		}
	}
	// R3: what the one becomes, the other does not.
	g.Add(4, 2)
	mustOn(t, g, 0, 1, 2, 3, 4)
	mustOrder(t, h, 4, 1, 3, 0, 2)
}
