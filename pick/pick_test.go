package pick_test

import (
	"math"
	"reflect"
	"slices"
	"testing"

	"millwright/api"
	"millwright/graph"
	"millwright/pick"
	"millwright/turns"
)

type edge struct{ from, to int }

// of is a graph of n tasks with these edges, all of which are new.
func of(t *testing.T, n int, edges ...edge) *graph.Graph {
	t.Helper()
	g := graph.New(n)
	for _, e := range edges {
		if is, err := g.Add(e.from, e.to); !is || err != api.OK {
			t.Fatalf("Add(%d, %d) of %d tasks: %v %v", e.from, e.to, n, is, err)
		}
	}
	return g
}

// sized is tasks of these memories; the cost of each is told by its place.
func sized(mems ...int) []api.Task {
	var all []api.Task
	for task, mem := range mems {
		all = append(all, api.Task{Mem: mem, Cost: 100 + task})
	}
	return all
}

// priced is tasks of these costs.
func priced(costs ...int) []api.Task {
	var all []api.Task
	for task, cost := range costs {
		all = append(all, api.Task{Mem: 50 + task, Cost: cost})
	}
	return all
}

// beyond is ids that are no place of a list of n, some of which have the lower bits of one.
func beyond(n int) []int {
	return []int{-1, -2, -64, -n - 1, n, n + 1, n + 64, n + 1<<32, 64, 65, 128, 1 << 20, 1 << 32, -1 << 32, math.MaxInt, math.MinInt}
}

func mustBest(t *testing.T, states, prios []int, greatest int, want ...int) {
	t.Helper()
	if p, best := pick.Best(states, prios); p != greatest || !slices.Equal(best, want) {
		t.Errorf("Best of states %v, priorities %v: %d %v, want %d %v", states, prios, p, best, greatest, want)
	}
}

func mustFit(t *testing.T, tasks []int, all []api.Task, room int, want ...int) {
	t.Helper()
	if fit := pick.Fits(tasks, all, room); !slices.Equal(fit, want) {
		t.Errorf("Fits of %v into %d, of tasks %v: %v, want %v", tasks, room, all, fit, want)
	}
}

// asked is what Wants is asked.
type asked struct {
	g          *graph.Graph
	tasks      []int
	all        []api.Task
	ids, roots []int
}

// wish is a want, and which task that is.
type wish struct{ id, cost, task int }

// wishes is wants and their tasks, place by place.
func wishes(t *testing.T, wants []turns.Want, own []int) []wish {
	t.Helper()
	if len(wants) != len(own) {
		t.Fatalf("%d wants, %d tasks", len(wants), len(own))
	}
	var l []wish
	for at, want := range wants {
		l = append(l, wish{want.ID, want.Cost, own[at]})
	}
	return l
}

func mustWant(t *testing.T, x asked, want []wish) {
	t.Helper()
	wants, own := pick.Wants(x.g, x.tasks, x.all, x.ids, x.roots)
	if l := wishes(t, wants, own); !slices.Equal(l, want) {
		t.Errorf("Wants of tasks %v of %v, ids %v, roots %v: %v, want %v", x.tasks, x.all, x.ids, x.roots, l, want)
	}
}

// P1: the document's example.
func TestTheExample(t *testing.T) {
	mustBest(t, []int{1, 1, 2}, []int{3, 5, 7}, 5, 1)
}

// P1: the greatest priority of those that are ready, and all that have it, wherever they stand.
func TestBestIsTheGreatest(t *testing.T) {
	const r, o = api.Ready, api.Done
	for _, x := range []struct {
		states, prios []int
		greatest      int
		want          []int
	}{
		{[]int{r}, []int{4}, 4, []int{0}},
		{[]int{r, r, r}, []int{1, 2, 3}, 3, []int{2}},
		{[]int{r, r, r}, []int{3, 2, 1}, 3, []int{0}},
		{[]int{r, r, r}, []int{2, 3, 1}, 3, []int{1}},
		{[]int{r, r, r}, []int{3, 3, 3}, 3, []int{0, 1, 2}},
		{[]int{r, r, r, r}, []int{3, 1, 3, 2}, 3, []int{0, 2}},
		{[]int{r, r, r, r}, []int{1, 3, 2, 3}, 3, []int{1, 3}},
		// Several that were the best so far, and are not.
		{[]int{r, r, r, r, r}, []int{1, 1, 2, 2, 1}, 2, []int{2, 3}},
		{[]int{r, r, r, r, r}, []int{1, 1, 2, 2, 3}, 3, []int{4}},
		// Those that are not ready do not count, however great their priority is.
		{[]int{o, r, o, r}, []int{9, 2, 9, 2}, 2, []int{1, 3}},
		{[]int{r, o, r}, []int{2, 2, 2}, 2, []int{0, 2}},
		{[]int{r, o, r}, []int{1, 5, 3}, 3, []int{2}},
		{[]int{o, o}, []int{4, 5}, -1, nil},
	} {
		mustBest(t, x.states, x.prios, x.greatest, x.want...)
	}
}

// P1: Ready alone is a state from which a task may run.
func TestBestOfEachState(t *testing.T) {
	for _, state := range []int{api.New, api.Running, api.Waiting, api.Backoff, api.Done, api.Failed, api.Cyclic, 8, -1, 1<<32 + api.Ready, 1<<8 + api.Ready, math.MaxInt, math.MinInt} {
		mustBest(t, []int{state}, []int{7}, -1)
		mustBest(t, []int{state, api.Ready, state}, []int{7, 0, 7}, 0, 1)
		mustBest(t, []int{api.Ready, state, api.Ready}, []int{5, 5, 5}, 5, 0, 2)
	}
}

// P1: a priority below 0 is none; any other one counts.
func TestBestAtTheEdgesOfPriorities(t *testing.T) {
	for _, prio := range []int{-1, -2, -7, -1 << 32, math.MinInt} {
		mustBest(t, []int{api.Ready}, []int{prio}, -1)
		mustBest(t, []int{api.Ready, api.Ready, api.Ready}, []int{prio, prio, -1}, -1)
		mustBest(t, []int{api.Ready, api.Ready, api.Ready}, []int{prio, 0, prio}, 0, 1)
		mustBest(t, []int{api.Ready, api.Done, api.Ready}, []int{prio, 3, prio}, -1)
	}
	for _, prio := range []int{0, 1, 7, 8, 1 << 20, 1 << 32, math.MaxInt} {
		mustBest(t, []int{api.Ready}, []int{prio}, prio, 0)
		mustBest(t, []int{api.Ready, api.Ready, api.Ready}, []int{prio, prio - 1, prio}, prio, 0, 2)
		mustBest(t, []int{api.Ready, api.Ready, api.Ready}, []int{prio - 1, prio, prio}, prio, 1, 2)
		mustBest(t, []int{api.Ready, api.Ready}, []int{math.MinInt, prio}, prio, 1)
	}
}

// P1: as many tasks as have both a state and a priority.
func TestBestOfUnlikeLengths(t *testing.T) {
	states, prios := []int{api.Ready, api.Ready, api.Ready, api.Ready}, []int{1, 2, 3, 4}
	for n := range 5 {
		if n == 0 {
			mustBest(t, states[:n], prios, -1)
			mustBest(t, states, prios[:n], -1)
			continue
		}
		mustBest(t, states[:n], prios, n, n-1)
		mustBest(t, states, prios[:n], n, n-1)
	}
	mustBest(t, nil, nil, -1)
	mustBest(t, []int{}, []int{}, -1)
	mustBest(t, nil, []int{5}, -1)
	mustBest(t, []int{api.Ready}, nil, -1)
}

// best is Best told once more: first who may run, then what is the greatest, then who has it.
func best(states, prios []int) (int, []int) {
	may := func(task int) bool {
		return task < len(states) && task < len(prios) && states[task] == api.Ready && prios[task] >= 0
	}
	var have []int
	for task := range prios {
		if may(task) {
			have = append(have, prios[task])
		}
	}
	if len(have) == 0 {
		return -1, nil
	}
	greatest := slices.Max(have)
	var all []int
	for task := range prios {
		if may(task) && prios[task] == greatest {
			all = append(all, task)
		}
	}
	return greatest, all
}

// mustBeBest holds Best against its second telling, and what follows of it.
func mustBeBest(t *testing.T, states, prios []int) {
	t.Helper()
	greatest, all := best(states, prios)
	mustBest(t, states, prios, greatest, all...)
	p, is := pick.Best(states, prios)
	for _, task := range is {
		if states[task] != api.Ready {
			t.Errorf("%v %v: %d is best, and not ready", states, prios, task)
		}
	}
	for task := range min(len(states), len(prios)) {
		if states[task] == api.Ready && prios[task] > p && prios[task] >= 0 {
			t.Errorf("%v %v: %d is ready, and above %d", states, prios, task, p)
		}
	}
	if t.Failed() {
		t.FailNow()
	}
}

// P1: all short rows of a few states and priorities; and rows of unlike lengths.
func TestBestOfAllShortRows(t *testing.T) {
	kinds := []struct{ state, prio int }{
		{api.Ready, -2}, {api.Ready, -1}, {api.Ready, 0}, {api.Ready, 1}, {api.Ready, 2}, {api.New, 2}, {api.Running, 0}, {api.Done, 3},
	}
	for n := range 6 {
		rows := 1
		for range n {
			rows *= len(kinds)
		}
		for row := range rows {
			var states, prios []int
			for rest := row; len(states) < n; rest /= len(kinds) {
				kind := kinds[rest%len(kinds)]
				states, prios = append(states, kind.state), append(prios, kind.prio)
			}
			mustBeBest(t, states, prios)
			if n == 3 {
				for less := range n {
					mustBeBest(t, states[:less], prios)
					mustBeBest(t, states, prios[:less])
				}
			}
		}
	}
}

// P1: long rows, also of more tasks than a yard has.
func TestBestOfLongRows(t *testing.T) {
	for _, n := range []int{63, 64, 65, 1000} {
		for step := range 50 {
			var states, prios []int
			for task := range n {
				// Steps of primes: far from any order of size.
				states = append(states, (task*7919+step*31)%8*(task*step%3)/2)
				prios = append(prios, (task*task*13+step*17)%11-3)
			}
			mustBeBest(t, states, prios)
		}
	}
}

// P1: those whose memory is at most the room, in order.
func TestFits(t *testing.T) {
	all := sized(4, 2, 3, 0, 9)
	for _, x := range []struct {
		tasks []int
		room  int
		want  []int
	}{
		{[]int{0, 1, 2, 3, 4}, 3, []int{1, 2, 3}},
		{[]int{4, 3, 2, 1, 0}, 3, []int{3, 2, 1}},
		{[]int{2, 0, 1}, 4, []int{2, 0, 1}},
		{[]int{2, 0, 1}, 1, nil},
		{[]int{0, 2, 4}, 9, []int{0, 2, 4}},
		{[]int{0, 2, 4}, 8, []int{0, 2}},
		{[]int{1, 3}, 0, []int{3}},
		{[]int{1, 3}, -1, nil},
		{[]int{0, 1, 2, 3, 4}, math.MaxInt, []int{0, 1, 2, 3, 4}},
		{[]int{0, 1, 2, 3, 4}, math.MinInt, nil},
		// What is told again fits again.
		{[]int{1, 0, 1, 1, 3, 1}, 2, []int{1, 1, 1, 3, 1}},
		{nil, 9, nil},
		{[]int{}, 9, nil},
	} {
		mustFit(t, x.tasks, all, x.room, x.want...)
	}
}

// P1: room is what it is, to the last bit of it.
func TestFitsAtTheEdges(t *testing.T) {
	for _, mem := range []int{0, 1, 2, 7, 1 << 20, 1 << 32, -1, -5, math.MaxInt - 1, math.MinInt + 1} {
		all := sized(math.MaxInt, mem)
		mustFit(t, []int{1, 0}, all, mem, 1)
		mustFit(t, []int{1, 0}, all, mem+1, append([]int{1}, only(mem+1 == math.MaxInt, 0)...)...)
		mustFit(t, []int{1, 0}, all, mem-1)
	}
	mustFit(t, []int{0, 1}, sized(math.MaxInt, math.MinInt), math.MaxInt, 0, 1)
	mustFit(t, []int{0, 1}, sized(math.MaxInt, math.MinInt), math.MinInt, 1)
}

// only is a task where something holds.
func only(holds bool, task int) []int {
	if holds {
		return []int{task}
	}
	return nil
}

// P1: a task's cost does not matter to what fits.
func TestFitsWhateverTheCost(t *testing.T) {
	for _, cost := range []int{math.MinInt, -1, 0, 1, 1 << 20, math.MaxInt} {
		mustFit(t, []int{0, 1}, []api.Task{{Mem: 3, Cost: cost}, {Mem: 4, Cost: -cost}}, 3, 0)
	}
}

// P1: what is no place is left out, and the others stay in order.
func TestFitsLeavesOutWhatIsNoPlace(t *testing.T) {
	for _, n := range []int{0, 1, 3, 64, 70} {
		all := make([]api.Task, n)
		mustFit(t, beyond(n), all, math.MaxInt, within(beyond(n), n)...)
		var tasks, want []int
		for i, wrong := range beyond(n) {
			tasks = append(tasks, wrong)
			want = append(want, within([]int{wrong}, n)...)
			if n > 0 {
				tasks, want = append(tasks, i%n), append(want, i%n)
			}
		}
		mustFit(t, tasks, all, 0, want...)
	}
	mustFit(t, []int{0, 1, -1}, nil, math.MaxInt)
}

// within is those of ids that are a place of n.
func within(ids []int, n int) []int {
	var places []int
	for _, id := range ids {
		if id >= 0 && id < n {
			places = append(places, id)
		}
	}
	return places
}

// fits is Fits told once more: of each place, asked by itself.
func fits(tasks []int, all []api.Task, room int) []int {
	var fit []int
	for _, asked := range tasks {
		for task, x := range all {
			if task == asked && x.Mem <= room {
				fit = append(fit, asked)
			}
		}
	}
	return fit
}

// P1: all short lists of tasks, into each room; and long ones.
func TestFitsOfAllShortLists(t *testing.T) {
	all := sized(2, 0, 3, 2)
	kinds := []int{-1, 0, 1, 2, 3, 4}
	for n := range 5 {
		rows := 1
		for range n {
			rows *= len(kinds)
		}
		for row := range rows {
			var tasks []int
			for rest := row; len(tasks) < n; rest /= len(kinds) {
				tasks = append(tasks, kinds[rest%len(kinds)])
			}
			for room := -1; room < 5; room++ {
				mustFit(t, tasks, all, room, fits(tasks, all, room)...)
			}
		}
	}
	var many []api.Task
	var tasks []int
	for i := range 200 {
		many = append(many, api.Task{Mem: i * 7919 % 101, Cost: i})
		tasks = append(tasks, i*i*31%223-5, i)
	}
	for room := -1; room < 102; room++ {
		mustFit(t, tasks, many, room, fits(tasks, many, room)...)
	}
}

// P2: of each id the first one of tasks that its root reaches, with its cost, place by place.
func TestWants(t *testing.T) {
	g := of(t, 6, edge{0, 1}, edge{1, 2}, edge{0, 3}, edge{4, 3})
	all := priced(10, 11, 12, 13, 14, 15)
	for _, x := range []struct {
		tasks, ids, roots []int
		want              []wish
	}{
		// A root reaches itself, and what is behind it, near or far.
		{[]int{0}, []int{7}, []int{0}, []wish{{7, 10, 0}}},
		{[]int{1}, []int{7}, []int{0}, []wish{{7, 11, 1}}},
		{[]int{2}, []int{7}, []int{0}, []wish{{7, 12, 2}}},
		// The first one of tasks, not the least, nor the nearest.
		{[]int{3, 2, 1, 0}, []int{7}, []int{0}, []wish{{7, 13, 3}}},
		{[]int{2, 1, 3}, []int{7}, []int{0}, []wish{{7, 12, 2}}},
		{[]int{4, 5, 1, 2}, []int{7}, []int{0}, []wish{{7, 11, 1}}},
		// In the order of ids, whatever that of the tasks, or of the ids' sizes, is.
		{[]int{1, 3}, []int{9, 2, 5}, []int{4, 0, 1}, []wish{{9, 13, 3}, {2, 11, 1}, {5, 11, 1}}},
		{[]int{3, 1}, []int{9, 2, 5}, []int{4, 0, 1}, []wish{{9, 13, 3}, {2, 13, 3}, {5, 11, 1}}},
		// Who reaches none wants nothing, and the others stay in order.
		{[]int{3}, []int{1, 2, 3, 4}, []int{2, 4, 5, 0}, []wish{{2, 13, 3}, {4, 13, 3}}},
		{[]int{5}, []int{1, 2, 3}, []int{0, 5, 4}, []wish{{2, 15, 5}}},
		{[]int{0}, []int{1, 2}, []int{1, 3}, nil},
		// The same id, and the same root, once more.
		{[]int{2}, []int{8, 8, 8}, []int{1, 0, 1}, []wish{{8, 12, 2}, {8, 12, 2}, {8, 12, 2}}},
		{[]int{2, 3}, []int{8, 8}, []int{1, 4}, []wish{{8, 12, 2}, {8, 13, 3}}},
		// A task that is told again.
		{[]int{5, 5, 2, 5, 2, 1}, []int{6, 7}, []int{1, 5}, []wish{{6, 12, 2}, {7, 15, 5}}},
		{nil, []int{1, 2}, []int{0, 1}, nil},
		{[]int{0, 1, 2}, nil, nil, nil},
	} {
		mustWant(t, asked{g, x.tasks, all, x.ids, x.roots}, x.want)
	}
}

// P2: edges are gone along from the root on, not towards it, and circles too.
func TestWantsGoByWhatTheRootReaches(t *testing.T) {
	all := priced(3, 4, 5, 6)
	chain := of(t, 4, edge{0, 1}, edge{1, 2}, edge{2, 3})
	mustWant(t, asked{chain, []int{1}, all, []int{0, 1, 2, 3}, []int{0, 1, 2, 3}}, []wish{{0, 4, 1}, {1, 4, 1}})
	circle := of(t, 4, edge{0, 1}, edge{1, 2}, edge{2, 0}, edge{3, 3})
	mustWant(t, asked{circle, []int{3, 1, 2}, all, []int{0, 1, 2, 3}, []int{0, 1, 2, 3}}, []wish{{0, 4, 1}, {1, 4, 1}, {2, 4, 1}, {3, 6, 3}})
}

// P2: as many ids as have a root.
func TestWantsOfUnlikeLengths(t *testing.T) {
	g, all := graph.New(3), priced(7, 8, 9)
	ids, roots, tasks := []int{5, 6, 4}, []int{2, 0, 1}, []int{0, 1, 2}
	want := []wish{{5, 9, 2}, {6, 7, 0}, {4, 8, 1}}
	for n := range 4 {
		mustWant(t, asked{g, tasks, all, ids[:n], roots}, want[:n])
		mustWant(t, asked{g, tasks, all, ids, roots[:n]}, want[:n])
	}
	mustWant(t, asked{g, tasks, all, nil, roots}, nil)
	mustWant(t, asked{g, tasks, all, ids, nil}, nil)
}

// P2: ids and costs are told as they are, whatever they are.
func TestWantsOfAnyIdAndCost(t *testing.T) {
	for _, x := range []int{math.MinInt, -1 << 32, -1, 0, 1, 63, 64, 1 << 20, 1<<20 + 1, 1 << 32, math.MaxInt} {
		g := of(t, 2, edge{0, 1})
		mustWant(t, asked{g, []int{1, 0}, priced(5, x), []int{x, x}, []int{0, 1}}, []wish{{x, x, 1}, {x, x, 1}})
		mustWant(t, asked{g, []int{0}, priced(x), []int{x}, []int{0}}, []wish{{x, x, 0}})
		mustWant(t, asked{g, []int{0}, []api.Task{{Mem: x, Cost: 4}}, []int{1}, []int{0}}, []wish{{1, 4, 0}})
	}
}

// P2: a root that is no task reaches nothing; the others keep their order.
func TestWantsOfRootsThatAreNoTasks(t *testing.T) {
	for _, n := range []int{0, 1, 5, 64} {
		g, all := graph.New(n), make([]api.Task, 200)
		var tasks []int
		for task := range 200 {
			tasks = append(tasks, task)
			all[task].Cost = task + 1
		}
		var ids, roots []int
		var want []wish
		for i, root := range beyond(n) {
			ids, roots = append(ids, i), append(roots, root)
			if root >= 0 && root < n {
				t.Fatal("a task: ", root)
			}
		}
		mustWant(t, asked{g, tasks, all, ids, roots}, nil)
		for task := range n {
			ids, roots = append(ids, -task), append(roots, task)
			want = append(want, wish{-task, task + 1, task})
		}
		mustWant(t, asked{g, tasks, all, ids, roots}, want)
	}
}

// P2: what is no place of all is passed over, and what is no task of the graph is not reached.
func TestWantsOfTasksThatAreNone(t *testing.T) {
	g := of(t, 4, edge{0, 1}, edge{0, 2}, edge{0, 3})
	for _, x := range []struct {
		tasks []int
		all   []api.Task
		want  []wish
	}{
		// Reached, but no place of all: the next one is taken.
		{[]int{3, 2, 1}, priced(5, 6, 7), []wish{{9, 7, 2}}},
		{[]int{3, 2, 1}, priced(5, 6), []wish{{9, 6, 1}}},
		{[]int{3, 2, 1}, priced(5), nil},
		{[]int{3, 0, 1}, priced(5), []wish{{9, 5, 0}}},
		{[]int{0, 1, 2, 3}, nil, nil},
		// A place of all, but no task.
		{[]int{4, 5, 1}, priced(5, 6, 7, 8, 9, 10), []wish{{9, 6, 1}}},
		{[]int{4, 5}, priced(5, 6, 7, 8, 9, 10), nil},
		{append(beyond(4), 2), priced(5, 6, 7, 8), []wish{{9, 7, 2}}},
		{beyond(4), make([]api.Task, 200), nil},
		{beyond(64), make([]api.Task, 200), nil},
	} {
		mustWant(t, asked{g, x.tasks, x.all, []int{9}, []int{0}}, x.want)
	}
}

// R2: where there is no graph there are no tasks, and nothing panics.
func TestNoGraph(t *testing.T) {
	for _, g := range []*graph.Graph{nil, {}, graph.New(0), graph.New(-5)} {
		mustWant(t, asked{g, []int{0, -1, 1}, priced(4, 5), []int{1, 2}, []int{0, 1}}, nil)
		mustWant(t, asked{g, nil, nil, nil, nil}, nil)
	}
}

// wants is Wants told once more, by who has an edge to whom: first whom each reaches, then of each id all that it could take.
func wants(n int, edges []edge, x asked) []wish {
	reaches := map[edge]struct{}{}
	for task := range n {
		reaches[edge{task, task}] = struct{}{}
	}
	for _, e := range edges {
		reaches[e] = struct{}{}
	}
	for by := range n {
		for a := range n {
			for b := range n {
				_, to := reaches[edge{a, by}]
				if _, from := reaches[edge{by, b}]; to && from {
					reaches[edge{a, b}] = struct{}{}
				}
			}
		}
	}
	var l []wish
	for at, id := range x.ids {
		if at == len(x.roots) {
			break
		}
		var could []int
		for _, task := range x.tasks {
			if _, is := reaches[edge{x.roots[at], task}]; is && task < len(x.all) {
				could = append(could, task)
			}
		}
		if len(could) > 0 {
			l = append(l, wish{id, x.all[could[0]].Cost, could[0]})
		}
	}
	return l
}

func mustBeWants(t *testing.T, n int, edges []edge, x asked) {
	t.Helper()
	mustWant(t, x, wants(n, edges, x))
	if t.Failed() {
		t.Fatalf("edges %v", edges)
	}
}

// edgesOf is the edges between n tasks that a number's bits say.
func edgesOf(n, bits int) []edge {
	var edges []edge
	for i := range n * n {
		if bits>>i&1 == 1 {
			edges = append(edges, edge{i / n, i % n})
		}
	}
	return edges
}

// P2: all graphs of up to three tasks, with all short lists of tasks, of which one may be none, or no place.
func TestWantsOfAllSmallGraphs(t *testing.T) {
	for n := range 4 {
		lists := [][]int{nil}
		for a := -1; a <= n; a++ {
			lists = append(lists, []int{a})
			for b := -1; b <= n; b++ {
				lists = append(lists, []int{a, b})
				for c := -1; c <= n; c++ {
					lists = append(lists, []int{a, b, c})
				}
			}
		}
		var ids, roots []int
		for root := n; root >= -1; root-- {
			ids, roots = append(ids, 20-root), append(roots, root)
		}
		for bits := range 1 << (n * n) {
			edges := edgesOf(n, bits)
			g := of(t, n, edges...)
			for _, tasks := range lists {
				for places := max(n-1, 0); places <= n+1; places++ {
					mustBeWants(t, n, edges, asked{g, tasks, priced(7, 8, 9, 10)[:places], ids, roots})
				}
			}
		}
	}
}

// P2: as many tasks as there may be, and long lists.
func TestWantsOfLongLists(t *testing.T) {
	var edges []edge
	for i := range 70 {
		edges = append(edges, edge{i * 29 % 64, i * 37 % 61})
	}
	slices.SortFunc(edges, func(a, b edge) int { return a.from*64 + a.to - b.from*64 - b.to })
	edges = slices.Compact(edges)
	g := of(t, 64, edges...)
	var all []api.Task
	for i := range 60 {
		all = append(all, api.Task{Mem: i, Cost: i*7919%1000 + 1})
	}
	var ids, roots []int
	for i := range 150 {
		ids, roots = append(ids, i*13%40-3), append(roots, i*i%71-3)
	}
	for step := range 40 {
		var tasks []int
		for i := range 1 + step*step%37 {
			tasks = append(tasks, (i*23+step*11)%70-3)
		}
		mustBeWants(t, 64, edges, asked{g, tasks, all, ids, roots[:len(roots)-step]})
	}
}

// P1, P2: lists of as many items as something is promised of have their answers.
func TestVeryLongLists(t *testing.T) {
	const most = 1000000
	g, all := graph.New(64), priced(1, 2, 3)
	long := make([]int, most) // 0, and again 0
	states := slices.Repeat([]int{api.Ready}, most)
	states[most-1] = api.Running
	if p, best := pick.Best(states, long); p != 0 || len(best) != most-1 {
		t.Error(p, len(best))
	}
	if fit := pick.Fits(long, all, 50); !slices.Equal(fit, long) {
		t.Error(len(fit))
	}
	roots := slices.Repeat([]int{1}, most)
	mustWant(t, asked{g, long, all, long, roots}, nil)
	if wants, own := pick.Wants(g, append(long, 1), all, roots, roots); len(wants) != most || !slices.Equal(own, roots) || wants[most-1] != (turns.Want{ID: 1, Cost: 2}) {
		t.Error(len(wants), len(own))
	}
	// Far more places, and unlike tasks, than a graph has.
	var falling []int
	for i := range most {
		falling = append(falling, most-1-i)
	}
	if wants, own := pick.Wants(g, falling, make([]api.Task, most), roots, falling); len(wants) != 64 || !slices.Equal(own, falling[most-64:]) {
		t.Error(len(wants), own)
	}
}

// told is all that a graph tells of itself.
func told(g *graph.Graph) [][]int {
	rows := [][]int{{g.N(), g.Len()}}
	for a := range g.N() {
		rows = append(rows, g.Out(a), g.In(a), g.Reach(a))
	}
	return rows
}

// spoil writes over a list, and over the room behind it.
func spoil[T any](l []T, by T) {
	for i := range l[:cap(l)] {
		l[:cap(l)][i] = by
	}
}

// R1: what is handed in stays as it was.
func TestArgumentsStay(t *testing.T) {
	g := of(t, 4, edge{0, 1}, edge{2, 3})
	ahead := told(g)
	// Longer behind what is handed in: nothing is written there either.
	whole := [][]int{{api.Ready, api.Ready, api.Done, 91}, {2, 1, 7, 92}, {3, 1, 2, 93}, {5, 6, 7, 94}, {0, 2, 1, 95}}
	tasks := priced(4, 5, 6, 7, 96)
	var kept, l [][]int
	for _, row := range whole {
		kept, l = append(kept, slices.Clone(row)), append(l, row[:3])
	}
	tasksKept := slices.Clone(tasks)
	for range 2 {
		mustBest(t, l[0], l[1], 2, 0)
		mustFit(t, l[2], tasks[:4], 51, 1)
		mustFit(t, l[2], tasks[:4], 0)
		mustFit(t, l[2], tasks[:4], 99, 3, 1, 2)
		mustWant(t, asked{g, l[2], tasks[:4], l[3], l[4]}, []wish{{5, 5, 1}, {6, 7, 3}, {7, 5, 1}})
	}
	if !reflect.DeepEqual(whole, kept) || !slices.Equal(tasks, tasksKept) {
		t.Errorf("lists: %v became %v, tasks: %v became %v", kept, whole, tasksKept, tasks)
	}
	if behind := told(g); !reflect.DeepEqual(ahead, behind) {
		t.Errorf("the graph: %v became %v", ahead, behind)
	}
}

// R1: what is handed in is not kept, and what is answered is the caller's own.
func TestAnswersAreTheCallersOwn(t *testing.T) {
	g := of(t, 4, edge{0, 1}, edge{2, 3})
	states, prios := []int{api.Ready, api.Ready, api.Done}, []int{2, 2, 7}
	tasks, all, ids, roots := []int{3, 1, 2}, priced(4, 5, 6, 7), []int{5, 6, 7}, []int{0, 2, 1}
	_, best := pick.Best(states, prios)
	fit := pick.Fits(tasks, all, 99)
	wants, own := pick.Wants(g, tasks, all, ids, roots)
	_, best2 := pick.Best(states, prios)
	fit2 := pick.Fits(tasks, all, 99)
	wants2, own2 := pick.Wants(g, tasks, all, ids, roots)
	spoil(best2, 77)
	spoil(fit2, 77)
	spoil(wants2, turns.Want{ID: 77, Cost: 77})
	spoil(own2, 77)
	mustBest(t, states, prios, 2, 0, 1)
	mustFit(t, tasks, all, 99, 3, 1, 2)
	mustWant(t, asked{g, tasks, all, ids, roots}, []wish{{5, 5, 1}, {6, 7, 3}, {7, 5, 1}})
	for _, row := range [][]int{states, prios, tasks, ids, roots} {
		spoil(row, 0)
	}
	spoil(all, api.Task{})
	g.Add(0, 3)
	if !slices.Equal(best, []int{0, 1}) || !slices.Equal(fit, []int{3, 1, 2}) {
		t.Error(best, fit)
	}
	if l := wishes(t, wants, own); !slices.Equal(l, []wish{{5, 5, 1}, {6, 7, 3}, {7, 5, 1}}) {
		t.Error(l)
	}
	// New answers go by what is there now.
	mustWant(t, asked{g, []int{3}, priced(1, 2, 3, 4), []int{8}, []int{0}}, []wish{{8, 4, 3}})
}

// P1, P2: what is answered is handed on to those that are next.
func TestOneBehindTheOther(t *testing.T) {
	g := of(t, 4, edge{0, 1}, edge{0, 2}, edge{3, 2})
	all := []api.Task{{Mem: 1, Cost: 5}, {Mem: 9, Cost: 6}, {Mem: 2, Cost: 7}, {Mem: 1, Cost: 8}}
	_, best := pick.Best([]int{api.Waiting, api.Ready, api.Ready, api.Waiting}, []int{4, 4, 4, 4})
	wants, own := pick.Wants(g, pick.Fits(best, all, 5), all, []int{10, 11}, []int{0, 3})
	round := turns.New(10)
	for _, id := range []int{10, 11} {
		if err := round.Join(id, 1); err != api.OK {
			t.Fatal(err)
		}
	}
	if whose, ok := round.Take(wants); !ok || whose != 11 || !slices.Equal(own, []int{2, 2}) {
		t.Error(wants, own, whose, ok)
	}
}

// R4: the same calls have the same answers.
func TestSameCallsSameAnswers(t *testing.T) {
	edges := []edge{{3, 1}, {1, 2}, {0, 3}, {4, 4}}
	g, h := of(t, 5, edges...), of(t, 5, edges...)
	tasks, all, ids, roots := []int{2, 4, 1}, priced(5, 4, 3, 2, 1), []int{1, 2, 3, 4, 5}, []int{4, 3, 2, 1, 0}
	wants, own := pick.Wants(g, tasks, all, ids, roots)
	first := wishes(t, wants, own)
	for range 3 {
		mustWant(t, asked{h, tasks, all, ids, roots}, first)
		mustWant(t, asked{g, tasks, all, ids, roots}, first)
	}
}
