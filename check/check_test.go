package check_test

import (
	"math"
	"slices"
	"testing"

	"millwright/api"
	"millwright/check"
	"millwright/parse"
)

// good is a config that is right, no number of which is at a bound.
var good = api.Config{Budget: 10, Slots: 2, Active: 3, Queue: 4, Tries: 5, Preempts: 6, Timeout: 7, Backoff: 8, Most: 9, Quantum: 11}

// right is a task that is right.
var right = api.Task{Mem: 5, Cost: 6}

// bound is a number of a config, and what it may be.
type bound struct {
	name        string
	field       func(c *api.Config) *int
	least, most int
}

var bounds = []bound{
	{"Budget", func(c *api.Config) *int { return &c.Budget }, 1, 1 << 20},
	{"Slots", func(c *api.Config) *int { return &c.Slots }, 1, 16},
	{"Active", func(c *api.Config) *int { return &c.Active }, 1, 1 << 20},
	{"Queue", func(c *api.Config) *int { return &c.Queue }, 0, 1 << 20},
	{"Tries", func(c *api.Config) *int { return &c.Tries }, 1, 1 << 20},
	{"Preempts", func(c *api.Config) *int { return &c.Preempts }, 0, 1 << 20},
	{"Timeout", func(c *api.Config) *int { return &c.Timeout }, 1, 1 << 20},
	{"Backoff", func(c *api.Config) *int { return &c.Backoff }, 1, 1 << 20},
	{"Most", func(c *api.Config) *int { return &c.Most }, 1, 1 << 20},
	{"Quantum", func(c *api.Config) *int { return &c.Quantum }, 1, 1 << 20},
}

func (b bound) inside() []int { return []int{b.least, b.least + 1, b.most - 1, b.most} }

// outside has numbers, too, whose lower half alone would be right.
func (b bound) outside() []int {
	return []int{b.least - 1, b.most + 1, -b.most, math.MinInt, math.MaxInt, 1<<32 + b.least, -1<<32 + b.least}
}

// with is the good config with one number changed.
func (b bound) with(n int) api.Config {
	c := good
	*b.field(&c) = n
	return c
}

func mustConfig(t *testing.T, c api.Config, want api.Errno) {
	t.Helper()
	if err := check.Config(c); err != want {
		t.Errorf("%+v: %v, want %v", c, err, want)
	}
}

func mustTask(t *testing.T, x api.Task, want api.Errno) {
	t.Helper()
	if err := check.Task(x); err != want {
		t.Errorf("%+v: %v, want %v", x, err, want)
	}
}

func mustFile(t *testing.T, f parse.File, wantAt int, want api.Errno) {
	t.Helper()
	if at, err := check.File(f); at != wantAt || err != want {
		t.Errorf("%+v and %d tasks %+v: %d %v, want %d %v", f.Config, len(f.Tasks), f.Tasks, at, err, wantAt, want)
	}
}

func rights(n int) []api.Task { return slices.Repeat([]api.Task{right}, n) }

// D1: each number of a config at both ends of its bounds, and beyond each.
func TestConfigBounds(t *testing.T) {
	mustConfig(t, good, api.OK)
	for _, b := range bounds {
		for _, n := range b.inside() {
			mustConfig(t, b.with(n), api.OK)
		}
		for _, n := range b.outside() {
			mustConfig(t, b.with(n), api.ErrRange)
		}
	}
}

// D1: all numbers at an end of their bounds, and then any one of them beyond.
func TestConfigAllAtTheirBounds(t *testing.T) {
	var low, high api.Config
	for _, b := range bounds {
		*b.field(&low), *b.field(&high) = b.least, b.most
	}
	for _, all := range []api.Config{low, high} {
		mustConfig(t, all, api.OK)
		for _, b := range bounds {
			for _, n := range b.outside() {
				c := all
				*b.field(&c) = n
				mustConfig(t, c, api.ErrRange)
			}
		}
	}
}

// D1: two numbers that are wrong in opposite ways do not make up for each other.
func TestConfigTwoWrong(t *testing.T) {
	for _, a := range bounds {
		for _, b := range bounds {
			c := a.with(a.least - 1)
			*b.field(&c) = b.most + 1
			mustConfig(t, c, api.ErrRange)
		}
	}
}

// The document's example.
func TestConfigOfNoughts(t *testing.T) {
	mustConfig(t, api.Config{}, api.ErrRange)
	mustFile(t, parse.File{}, 0, api.ErrRange)
}

// D1: each number of a task at both ends of its bounds, and beyond each.
func TestTaskBounds(t *testing.T) {
	b := bound{least: 1, most: 1 << 20}
	mustTask(t, right, api.OK)
	mustTask(t, api.Task{}, api.ErrRange)
	for _, n := range b.inside() {
		mustTask(t, api.Task{Mem: n, Cost: 6}, api.OK)
		mustTask(t, api.Task{Mem: 5, Cost: n}, api.OK)
		for _, m := range b.inside() {
			mustTask(t, api.Task{Mem: n, Cost: m}, api.OK)
		}
		for _, m := range b.outside() {
			mustTask(t, api.Task{Mem: n, Cost: m}, api.ErrRange)
			mustTask(t, api.Task{Mem: m, Cost: n}, api.ErrRange)
		}
	}
	for _, n := range b.outside() {
		for _, m := range b.outside() {
			mustTask(t, api.Task{Mem: n, Cost: m}, api.ErrRange)
		}
	}
}

// D1: files that are right, from no task to 64; a task may want more memory than there is.
func TestFileThatIsRight(t *testing.T) {
	mustFile(t, parse.File{Config: good}, -1, api.OK)
	mustFile(t, parse.File{Config: good, Tasks: []api.Task{}}, -1, api.OK)
	for n := range 65 {
		mustFile(t, parse.File{Config: good, Tasks: rights(n)}, -1, api.OK)
	}
	mustFile(t, parse.File{Config: good, Tasks: []api.Task{{Mem: good.Budget + 1, Cost: 1}, {Mem: 1 << 20, Cost: 1 << 20}}}, -1, api.OK)
}

// D1: a file whose config is wrong, with tasks that are right, none, wrong, or too many.
func TestFileOfWrongConfig(t *testing.T) {
	for _, b := range bounds {
		for _, n := range b.outside() {
			c := b.with(n)
			for _, tasks := range [][]api.Task{nil, rights(1), rights(64), rights(65), make([]api.Task, 3), make([]api.Task, 65)} {
				mustFile(t, parse.File{Config: c, Tasks: tasks}, 0, api.ErrRange)
			}
		}
		for _, n := range b.inside() {
			mustFile(t, parse.File{Config: b.with(n), Tasks: rights(2)}, -1, api.OK)
		}
	}
}

// D1: too many tasks, be they right or wrong, are told as the 65th, however many there are.
func TestFileOfTooManyTasks(t *testing.T) {
	for _, n := range []int{65, 66, 128, 1000} {
		mustFile(t, parse.File{Config: good, Tasks: rights(n)}, 65, api.ErrFull)
		mustFile(t, parse.File{Config: good, Tasks: make([]api.Task, n)}, 65, api.ErrFull)
		for _, i := range []int{0, 63, 64, n - 1} {
			tasks := rights(n)
			tasks[i].Mem = 0
			mustFile(t, parse.File{Config: good, Tasks: tasks}, 65, api.ErrFull)
		}
	}
}

// D1: one wrong task at each place, also with others behind it: the first one is told.
func TestFileOfWrongTasks(t *testing.T) {
	wrongs := []api.Task{{}, {Mem: 0, Cost: 6}, {Mem: 5, Cost: 0}, {Mem: 1<<20 + 1, Cost: 6}, {Mem: 5, Cost: 1<<20 + 1}, {Mem: -1, Cost: -1}}
	for i := range 64 {
		for _, wrong := range wrongs {
			tasks := rights(64)
			tasks[i] = wrong
			mustFile(t, parse.File{Config: good, Tasks: tasks}, i+1, api.ErrRange)
			mustFile(t, parse.File{Config: good, Tasks: tasks[:i+1]}, i+1, api.ErrRange)
			mustFile(t, parse.File{Config: good, Tasks: tasks[:i]}, -1, api.OK)
			for _, other := range wrongs {
				tasks[63] = other
				mustFile(t, parse.File{Config: good, Tasks: tasks}, i+1, api.ErrRange)
			}
			for j := i; j < 64; j++ {
				tasks[j] = wrong
			}
			mustFile(t, parse.File{Config: good, Tasks: tasks}, i+1, api.ErrRange)
		}
	}
}

// D1: operations are not looked at: of no kind, of numbers that may not be, or too many.
func TestFileWhateverItsOperations(t *testing.T) {
	least, most := math.MinInt, math.MaxInt
	wrong := []api.Op{{}, {Kind: -1}, {Kind: 7}, {Kind: api.Submit, A: 64, B: 101, C: 8}, {Kind: api.Answer, A: 16, C: 4, D: -1}, {Kind: least, A: least, B: least, C: least, D: least}, {Kind: most, A: most, B: most, C: most, D: most}}
	for _, ops := range [][]api.Op{nil, {}, {{Kind: api.Tick}}, wrong, slices.Repeat(wrong, 1000), make([]api.Op, parse.MaxOps+1)} {
		mustFile(t, parse.File{Config: good, Tasks: rights(2), Ops: ops}, -1, api.OK)
		mustFile(t, parse.File{Config: good, Tasks: []api.Task{right, right, {}}, Ops: ops}, 3, api.ErrRange)
		mustFile(t, parse.File{Config: good, Tasks: rights(65), Ops: ops}, 65, api.ErrFull)
		mustFile(t, parse.File{Tasks: rights(2), Ops: ops}, 0, api.ErrRange)
	}
}

// D1: what was read is checked: noughts that parse takes, and a yard that is right.
func TestFileThatWasRead(t *testing.T) {
	const head = "config budget 10 slots 2 active 3 queue 0 tries 5 preempts 0 timeout 7 backoff 8 most 9 quantum 11\n"
	for _, x := range []struct {
		text string
		at   int
		err  api.Errno
	}{
		{head + "task 5 2\ntask 1 1048576\nsubmit 9 0 8\n", -1, api.OK},
		{head + "task 5 2\ntask 1 0\n", 2, api.ErrRange},
		{"config budget 10 slots 17 active 3 queue 0 tries 5 preempts 0 timeout 7 backoff 8 most 9 quantum 11\ntask 0 0\n", 0, api.ErrRange},
	} {
		f, _, err := parse.Parse([]byte(x.text))
		if err != api.OK {
			t.Fatalf("%q: %v", x.text, err)
		}
		mustFile(t, f, x.at, x.err)
	}
}

// R1, R4: a file stays as it was, and is answered the same again.
func TestFileStaysAsItWas(t *testing.T) {
	for _, tasks := range [][]api.Task{rights(64), rights(65), {right, {Mem: 0, Cost: 1}, {Mem: 1, Cost: -1}}} {
		f := parse.File{Config: good, Tasks: tasks, Ops: []api.Op{{Kind: api.Query, A: 7}, {Kind: 9}}}
		config, tasksAhead, opsAhead := f.Config, slices.Clone(f.Tasks), slices.Clone(f.Ops)
		at, err := check.File(f)
		if f.Config != config || !slices.Equal(f.Tasks, tasksAhead) || !slices.Equal(f.Ops, opsAhead) {
			t.Errorf("the file became %+v", f)
		}
		mustFile(t, f, at, err)
		// A file that is right is so whatever was asked ahead of it.
		mustFile(t, parse.File{Config: good, Tasks: rights(1)}, -1, api.OK)
		mustFile(t, f, at, err)
	}
}
