package verdict_test

import (
	"math"
	"reflect"
	"slices"
	"testing"

	"millwright/api"
	"millwright/verdict"
)

// Short words for what a task's own attempts, and its verdict, may be.
const (
	n = api.New
	d = api.Done
	f = api.Failed
	c = api.Cyclic
)

// facts is facts of as many tasks as there are owns.
func facts(edges [][]int, own ...int) verdict.Facts {
	return verdict.Facts{N: len(own), Edges: edges, Own: own}
}

func mustBe(t *testing.T, x verdict.Facts, want ...int) {
	t.Helper()
	if got, err := verdict.Of(x); !slices.Equal(got, want) || err != api.OK {
		t.Errorf("Of %v: %v %v, want %v", x, got, err, want)
	}
}

func mustNotBe(t *testing.T, x verdict.Facts) {
	t.Helper()
	if got, err := verdict.Of(x); len(got) != 0 || err != api.ErrArg {
		t.Errorf("Of %v: %v %v, want none and %v", x, got, err, api.ErrArg)
	}
}

// Q1: the document's example.
func TestTheExample(t *testing.T) {
	mustBe(t, facts([][]int{{1}, {0}, {0}}, d, d, d), c, c, c)
}

// Q1: a task that waited for nobody comes to what its own attempts came to; no tasks have no verdicts.
func TestItsOwn(t *testing.T) {
	mustBe(t, facts(nil))
	mustBe(t, facts([][]int{}))
	mustBe(t, verdict.Facts{N: 0, Edges: [][]int{}, Own: []int{}})
	for _, own := range []int{n, d, f} {
		mustBe(t, facts([][]int{nil}, own), own)
		mustBe(t, facts([][]int{{}}, own), own)
	}
	mustBe(t, facts(make([][]int, 6), d, n, f, f, n, d), d, n, f, f, n, d)
}

// Q1: of each own verdict and each that it waits for, the first that applies.
func TestTheFirstThatApplies(t *testing.T) {
	for _, x := range []struct{ own, next, want int }{
		{n, n, n}, {n, d, n}, {n, f, f},
		{d, n, n}, {d, d, d}, {d, f, f},
		{f, n, f}, {f, d, f}, {f, f, f},
	} {
		mustBe(t, facts([][]int{{1}, nil}, x.own, x.next), x.want, x.next)
		mustBe(t, facts([][]int{nil, {0}}, x.next, x.own), x.next, x.want)
	}
	// The third of them is on a circle, whatever its own is.
	for _, own := range []int{n, d, f} {
		for _, circle := range []int{n, d, f} {
			mustBe(t, facts([][]int{{1}, {1}}, own, circle), c, c)
			mustBe(t, facts([][]int{{0}, {0}}, circle, own), c, c)
		}
	}
}

// Q1: Cyclic comes ahead of Failed, which comes ahead of New, which comes ahead of Done, wherever among the edges each stands.
func TestSeveralEdges(t *testing.T) {
	rows := [][]int{{1, 2, 3, 4}, {4, 3, 2, 1}, {2, 1, 4, 3}, {3, 4, 1, 2}}
	for _, row := range rows {
		for _, own := range []int{n, d, f} {
			mustBe(t, facts([][]int{row, {1}, nil, nil, nil}, own, d, f, n, d), c, c, f, n, d)
			mustBe(t, facts([][]int{row, nil, nil, nil, nil}, own, d, f, n, d), f, d, f, n, d)
		}
		mustBe(t, facts([][]int{row, nil, nil, nil, nil}, d, d, d, n, d), n, d, d, n, d)
		mustBe(t, facts([][]int{row, nil, nil, nil, nil}, n, d, d, d, d), n, d, d, d, d)
		mustBe(t, facts([][]int{row, nil, nil, nil, nil}, f, d, d, n, d), f, d, d, n, d)
		mustBe(t, facts([][]int{row, nil, nil, nil, nil}, d, d, d, d, d), d, d, d, d, d)
	}
	// What is told again is as if told once.
	mustBe(t, facts([][]int{{1, 1, 1}, nil}, d, d), d, d)
	mustBe(t, facts([][]int{{1, 2, 1, 2}, nil, nil}, d, d, f), f, d, f)
	mustBe(t, facts([][]int{{1, 1, 0}, nil}, d, d), c, d)
}

// Q1: Failed comes to all that lead to it, near or far, and to nobody behind it.
func TestFailedComesFromFar(t *testing.T) {
	mustBe(t, facts([][]int{{1}, {2}, {3}, {4}, nil}, d, n, d, f, d), f, f, f, f, d)
	mustBe(t, facts([][]int{nil, {0}, {1}, {2}, {3}}, d, f, d, n, d), d, f, f, f, f)
	mustBe(t, facts([][]int{{1}, {2}, nil}, f, d, n), f, n, n)
	mustBe(t, facts([][]int{{1, 2}, {3}, {3}, nil}, d, n, d, f), f, f, f, f)
	mustBe(t, facts([][]int{{1, 2}, {3}, {3}, nil}, d, f, d, d), f, f, d, d)
	mustBe(t, facts([][]int{{1, 2}, {3}, {3}, nil}, d, d, d, d), d, d, d, d)
	mustBe(t, facts([][]int{{1, 2}, {3}, {3}, nil}, d, d, n, d), n, d, n, d)
}

// Q1: Cyclic are all on a circle, and all that lead to one, near or far, and nobody behind it.
func TestCyclic(t *testing.T) {
	mustBe(t, facts([][]int{{0}}, d), c)
	mustBe(t, facts([][]int{{1}, {2}, {0}}, d, f, n), c, c, c)
	mustBe(t, facts([][]int{{2}, {0}, {1}}, d, f, n), c, c, c)
	mustBe(t, facts([][]int{{1}, {2}, {3}, {2}}, f, f, f, f), c, c, c, c)
	// Behind the circle, and beside it.
	mustBe(t, facts([][]int{{1, 2}, {0}, {3}, nil, nil}, d, d, d, n, f), c, c, n, n, f)
	mustBe(t, facts([][]int{{2, 1}, {0}, {3}, nil, {3}}, d, d, d, f, d), c, c, f, f, f)
	// A way that goes by what was asked before, and one into it from below.
	mustBe(t, facts([][]int{{1, 2}, nil, {1, 3}, {2}, {0}}, d, d, d, d, d), c, d, c, c, c)
	// Two circles that share a task, and two that one leads to the other.
	mustBe(t, facts([][]int{{1, 2}, {0}, {0}}, d, d, d), c, c, c)
	mustBe(t, facts([][]int{{1}, {0, 2}, {3}, {2, 4}, nil}, d, d, d, d, d), c, c, c, c, d)
	// Two ways to one task are no circle.
	mustBe(t, facts([][]int{{1, 2}, {2}, nil}, d, d, d), d, d, d)
	mustBe(t, facts([][]int{nil, {0}, {0, 1}}, d, d, d), d, d, d)
}

// Q1: N is from 0 to 64, with as many rows of edges, and as many owns.
func TestHowManyTasks(t *testing.T) {
	for _, many := range []int{0, 1, 2, 63, 64} {
		mustBe(t, facts(make([][]int, many), slices.Repeat([]int{d}, many)...), slices.Repeat([]int{d}, many)...)
	}
	for _, many := range []int{65, 66, 128, 1000} {
		mustNotBe(t, facts(make([][]int, many), make([]int, many)...))
	}
	for _, many := range []int{-1, -2, -64, -1 << 32, 1 << 32, 1<<32 + 1, math.MaxInt, math.MinInt} {
		mustNotBe(t, verdict.Facts{N: many})
		mustNotBe(t, verdict.Facts{N: many, Edges: [][]int{nil}, Own: []int{d}})
	}
	for edges := range 5 {
		for owns := range 5 {
			for many := range 5 {
				x := verdict.Facts{N: many, Edges: make([][]int, edges), Own: make([]int, owns)}
				if edges == many && owns == many {
					mustBe(t, x, make([]int, many)...)
				} else {
					mustNotBe(t, x)
				}
			}
		}
	}
	// More than N, of which more may not be either.
	mustNotBe(t, verdict.Facts{N: 64, Edges: make([][]int, 65), Own: make([]int, 64)})
	mustNotBe(t, verdict.Facts{N: 64, Edges: make([][]int, 64), Own: make([]int, 65)})
	mustNotBe(t, verdict.Facts{N: 65, Edges: make([][]int, 64), Own: make([]int, 64)})
}

// beyond is ids that are none of so many tasks, some of which have the lower bits of one.
func beyond(many int) []int {
	return []int{-1, -2, -64, -many - 1, many, many + 1, many + 64, many + 1<<32, 64, 65, 1 << 20, 1 << 32, -1 << 32, math.MaxInt, math.MinInt}
}

// Q1: an edge is from 0 to N - 1, wherever it stands.
func TestEdgesThatAreNone(t *testing.T) {
	for _, many := range []int{1, 2, 5, 64} {
		for _, wrong := range beyond(many) {
			for _, task := range []int{0, many / 2, many - 1} {
				for _, row := range [][]int{{wrong}, {0, wrong}, {wrong, many - 1}, {0, wrong, 0}, {wrong, wrong}} {
					x := facts(make([][]int, many), slices.Repeat([]int{d}, many)...)
					x.Edges[task] = row
					mustNotBe(t, x)
					// Nor if its verdict is sure without it, or nobody leads to it.
					x.Own[task] = f
					mustNotBe(t, x)
					x.Edges[0] = append([]int{0}, x.Edges[0]...)
					mustNotBe(t, x)
				}
			}
		}
		x := facts(make([][]int, many), slices.Repeat([]int{n}, many)...)
		x.Edges[0] = []int{many - 1}
		if many == 1 {
			mustBe(t, x, c)
		} else {
			mustBe(t, x, x.Own...)
		}
	}
}

// Q1: what a task's own attempts came to is Done, Failed, or New.
func TestOwnsThatAreNone(t *testing.T) {
	for _, wrong := range []int{api.Ready, api.Running, api.Waiting, api.Backoff, api.Cyclic, 8, -1, -5, 1<<8 + d, 1<<32 + d, 1 << 32, 1<<32 + f, math.MaxInt, math.MinInt} {
		mustNotBe(t, facts([][]int{nil}, wrong))
		mustNotBe(t, facts([][]int{nil, nil, nil}, wrong, d, d))
		mustNotBe(t, facts([][]int{nil, nil, nil}, d, wrong, f))
		mustNotBe(t, facts([][]int{nil, nil, nil}, n, n, wrong))
		mustNotBe(t, facts([][]int{{0}, {0}, {0}}, d, d, wrong))
	}
}

// Q1, R2: long ways, each task of which is asked for by as many ways as there are, or by an edge that is told a million times.
func TestManyWays(t *testing.T) {
	const many = api.MaxTasks
	for _, last := range []int{n, d, f} {
		up, down := facts(nil, slices.Repeat([]int{d}, many)...), facts(nil, slices.Repeat([]int{d}, many)...)
		for task := range many {
			var above, below []int
			for other := range many {
				if other > task {
					above = append(above, other)
				} else if other < task {
					below = append(below, other)
				}
			}
			up.Edges, down.Edges = append(up.Edges, above), append(down.Edges, below)
		}
		up.Own[many-1], down.Own[0] = last, last
		all := slices.Repeat([]int{last}, many)
		mustBe(t, up, all...)
		mustBe(t, down, all...)
		up.Edges[many-1], down.Edges[0] = []int{many - 1}, []int{0}
		mustBe(t, up, slices.Repeat([]int{c}, many)...)
		mustBe(t, down, slices.Repeat([]int{c}, many)...)
		// The circle that goes by all.
		up.Edges[many-1], down.Edges[0] = []int{0}, []int{many - 1}
		mustBe(t, up, slices.Repeat([]int{c}, many)...)
		mustBe(t, down, slices.Repeat([]int{c}, many)...)
	}
	for _, own := range []int{n, d, f} {
		row := slices.Repeat([]int{1}, 1_000_000)
		mustBe(t, facts([][]int{row, nil}, d, own), own, own)
		row[len(row)-1] = 0
		mustBe(t, facts([][]int{row, nil}, d, own), c, own)
		row[len(row)-1] = 2
		mustNotBe(t, facts([][]int{row, nil}, d, own))
	}
}

// told is Of told once more: who is Cyclic by ways that grow, and the other verdicts, each from nobody on, till nothing is added.
func told(x verdict.Facts) []int {
	way := make([][]bool, x.N)
	for task, row := range x.Edges {
		way[task] = make([]bool, x.N)
		for _, next := range row {
			way[task][next] = true
		}
	}
	for by := range x.N {
		for from := range x.N {
			for to := range x.N {
				way[from][to] = way[from][to] || way[from][by] && way[by][to]
			}
		}
	}
	all := make([]int, x.N)
	for task := range all {
		for to := range all {
			if way[task][to] && way[to][to] {
				all[task] = c
			}
		}
	}
	grow := func(verdict int, applies func(task int) bool) {
		for more := true; more; {
			more = false
			for task := range all {
				if all[task] == n && applies(task) {
					all[task], more = verdict, true
				}
			}
		}
	}
	grow(f, func(task int) bool {
		return x.Own[task] == f || slices.ContainsFunc(x.Edges[task], func(next int) bool { return all[next] == f })
	})
	grow(d, func(task int) bool {
		return x.Own[task] == d && !slices.ContainsFunc(x.Edges[task], func(next int) bool { return all[next] != d })
	})
	return all
}

// owns is the row of so many owns that has this number.
func owns(number, many int) []int {
	row := make([]int, many)
	for task := range row {
		row[task] = []int{n, d, f}[number%3]
		number /= 3
	}
	return row
}

// edges is the edges of so many tasks whose bits this number has, each row rising, or falling.
func edges(number, many int, falling bool) [][]int {
	rows := make([][]int, many)
	for task := range rows {
		for next := range many {
			if number>>(task*many+next)&1 == 1 {
				rows[task] = append(rows[task], next)
			}
		}
		if falling {
			slices.Reverse(rows[task])
		}
	}
	return rows
}

func power(of, to int) int {
	product := 1
	for range to {
		product *= of
	}
	return product
}

// Q1: all facts of up to three tasks, and all graphs of four with a part of the owns.
func TestAllFewTasks(t *testing.T) {
	for many := range 4 {
		for graph := range power(2, many*many) {
			for own := range power(3, many) {
				x := facts(edges(graph, many, false), owns(own, many)...)
				want := told(x)
				mustBe(t, x, want...)
				x.Edges = edges(graph, many, true)
				mustBe(t, x, want...)
			}
			if t.Failed() {
				t.FailNow()
			}
		}
	}
	for graph := range power(2, 16) {
		for part := range 3 {
			x := facts(edges(graph, 4, graph%2 == part%2), owns((graph*7+part*27)%81, 4)...)
			mustBe(t, x, told(x)...)
		}
		if t.Failed() {
			t.FailNow()
		}
	}
}

// mixed is facts of so many tasks, with some edges of each, few or none of which go back; far from any order.
func mixed(of, step int) verdict.Facts {
	var x verdict.Facts
	x.N = of
	for task := range of {
		var row []int
		for i := range (task*5 + step) % 4 {
			next := (task*task*31 + i*7919 + step*613) % of
			if next == task || next < task && (step%4 != 0 || i%3 != 0) {
				next = of - 1 - (of-1-task)/2
			}
			if next != task {
				row = append(row, next)
			}
		}
		x.Edges = append(x.Edges, row)
		own := d
		switch kind := (task*task*17 + step*29) % 37; {
		case kind < step%5:
			own = n
		case kind > 36-step%3:
			own = f
		}
		x.Own = append(x.Own, own)
	}
	// Each number anew: by a step that has nothing in common with their count.
	to := func(task int) int { return (task*13 + step) % of }
	y := verdict.Facts{N: of, Edges: make([][]int, of), Own: make([]int, of)}
	for task := range of {
		for _, next := range x.Edges[task] {
			y.Edges[to(task)] = append(y.Edges[to(task)], to(next))
		}
		y.Own[to(task)] = x.Own[task]
	}
	return y
}

// Q1: facts of many tasks, which have each verdict.
func TestManyTasks(t *testing.T) {
	counts := map[int]int{}
	for _, of := range []int{7, 20, 63, 64} {
		for step := range 300 {
			x := mixed(of, step)
			want := told(x)
			mustBe(t, x, want...)
			for _, verdict := range want {
				counts[verdict]++
			}
		}
	}
	for _, verdict := range []int{n, d, f, c} {
		if counts[verdict] < 1000 {
			t.Errorf("only %d of verdict %d", counts[verdict], verdict)
		}
	}
}

// mustFollow tells whether nothing but New turned into anything else, Cyclic excepted.
func mustFollow(t *testing.T, before, after verdict.Facts) {
	t.Helper()
	was, err := verdict.Of(before)
	is, err2 := verdict.Of(after)
	if err != api.OK || err2 != api.OK {
		t.Fatalf("%v, then %v: %v %v", before, after, err, err2)
	}
	for task := range was {
		if was[task] != is[task] && was[task] != n && is[task] != c {
			t.Errorf("%v, then %v: verdict of %d was %d, is %d", before, after, task, was[task], is[task])
		}
	}
}

// Q1, what follows: what is known more of turns New alone into something else, but that Cyclic may come over all.
func TestWhatIsKnownMoreOf(t *testing.T) {
	const many = 3
	for graph := range power(2, many*many) {
		for own := range power(3, many) {
			x := facts(edges(graph, many, false), owns(own, many)...)
			for task := range many {
				if x.Own[task] != n {
					continue
				}
				for _, more := range []int{d, f} {
					y := facts(x.Edges, slices.Clone(x.Own)...)
					y.Own[task] = more
					mustFollow(t, x, y)
				}
				// It waits for one more, as its own attempts have not come to anything yet.
				for next := range many {
					y := facts(slices.Clone(x.Edges), x.Own...)
					y.Edges[task] = append(slices.Clone(y.Edges[task]), next)
					mustFollow(t, x, y)
				}
			}
		}
		if t.Failed() {
			t.FailNow()
		}
	}
}

// behind is a list that shares its memory with what stands behind it.
func behind(l ...int) []int {
	return append(append(make([]int, 0, len(l)+3), l...), 77, 78, 79)[:len(l)]
}

// R1: facts stay as they were, also behind their ends.
func TestFactsStay(t *testing.T) {
	fresh := func() verdict.Facts {
		rows := append(make([][]int, 0, 6), behind(1, 2), behind(2), nil, behind(9))
		return verdict.Facts{N: 3, Edges: rows[:3], Own: behind(d, d, f)}
	}
	deep := func(x verdict.Facts) []any {
		rows := x.Edges[:cap(x.Edges)]
		l := []any{x.N, len(x.Edges), len(x.Own), x.Own[:cap(x.Own)]}
		for _, row := range rows {
			l = append(l, len(row), row[:cap(row)])
		}
		return l
	}
	x := fresh()
	mustBe(t, x, f, f, f)
	if !reflect.DeepEqual(deep(x), deep(fresh())) {
		t.Errorf("facts are now %v", deep(x))
	}
	x.Own[2] = c
	mustNotBe(t, x)
	x.Own[2] = f
	x.Edges[1][0] = 3
	mustNotBe(t, x)
	x.Edges[1][0] = 2
	if !reflect.DeepEqual(deep(x), deep(fresh())) {
		t.Errorf("facts are now %v", deep(x))
	}
}

// R1, R4: verdicts are the caller's, to their last place, and nothing is kept from one call to the next.
func TestVerdictsAreTheCallers(t *testing.T) {
	x := facts([][]int{{1}, {2}, nil, {3}}, d, d, f, n)
	first, _ := verdict.Of(x)
	whole := first[:cap(first)]
	for at := range whole {
		whole[at] = 99
	}
	mustBe(t, x, f, f, f, c)
	if !slices.Equal(x.Own, []int{d, d, f, n}) || !slices.Equal(x.Edges[0], []int{1}) {
		t.Errorf("facts are now %v", x)
	}
	second, _ := verdict.Of(x)
	x.Own[2], x.Edges[3][0] = d, 2
	mustBe(t, x, d, d, d, n)
	if !slices.Equal(second, []int{f, f, f, c}) {
		t.Errorf("verdicts are now %v", second)
	}
	for at := range whole {
		if whole[at] != 99 {
			t.Errorf("the first verdicts are now %v", whole)
		}
	}
}
