package parse_test

import (
	"math"
	"slices"
	"strings"
	"testing"

	"millwright/api"
	"millwright/lex"
	"millwright/parse"
)

const head = "config budget 10 slots 2 active 3 queue 4 tries 5 preempts 6 timeout 7 backoff 8 most 9 quantum 11\n"

var headConfig = api.Config{Budget: 10, Slots: 2, Active: 3, Queue: 4, Tries: 5, Preempts: 6, Timeout: 7, Backoff: 8, Most: 9, Quantum: 11}

// written is each form of an operation with the operation that it is.
var written = []struct {
	line string
	op   api.Op
}{
	{"submit 1 2 3", api.Op{Kind: api.Submit, A: 1, B: 2, C: 3}},
	{"cancel 4", api.Op{Kind: api.Cancel, A: 4}},
	{"tick", api.Op{Kind: api.Tick}},
	{"dispatch", api.Op{Kind: api.Dispatch}},
	{"answer 5 6 did", api.Op{Kind: api.Answer, A: 5, B: 6, C: api.Did}},
	{"answer 7 8 fail", api.Op{Kind: api.Answer, A: 7, B: 8, C: api.Fail}},
	{"answer 0 1 need 4", api.Op{Kind: api.Answer, A: 0, B: 1, C: api.Need, D: 4}},
	{"answer 3 2 need 0", api.Op{Kind: api.Answer, A: 3, B: 2, C: api.Need}},
	{"query 9", api.Op{Kind: api.Query, A: 9}},
	{"submit 0 1048576 0", api.Op{Kind: api.Submit, B: 1048576}},
}

// short keeps what a failing test tells legible.
func short(s string) string {
	if len(s) > 200 {
		return s[:80] + " .. " + s[len(s)-80:]
	}
	return s
}

func same(a, b parse.File) bool {
	return a.Config == b.Config && slices.Equal(a.Tasks, b.Tasks) && slices.Equal(a.Ops, b.Ops)
}

func mustRead(t *testing.T, s string, want parse.File) {
	t.Helper()
	got, line, err := parse.Parse([]byte(s))
	if line != 0 || err != api.OK || !same(got, want) {
		t.Errorf("%q: %v %d %v; want %v", short(s), got, line, err, want)
	}
}

// mustRefuse holds, too, that with an error there is no file.
func mustRefuse(t *testing.T, s string, wantLine int, wantErr api.Errno) {
	t.Helper()
	got, line, err := parse.Parse([]byte(s))
	if line != wantLine || err != wantErr || !same(got, parse.File{}) {
		t.Errorf("%q: %v %d %v; want no file, %d %v", short(s), got, line, err, wantLine, wantErr)
	}
}

func mustWrite(t *testing.T, f parse.File, want string) {
	t.Helper()
	if got, err := parse.Text(f); got != want || err != api.OK {
		t.Errorf("%v: %q %v; want %q", f, short(got), err, short(want))
	}
}

func mustNotWrite(t *testing.T, f parse.File) {
	t.Helper()
	if got, err := parse.Text(f); got != "" || err != api.ErrArg {
		t.Errorf("%v: %q %v; want no text, %v", f, short(got), err, api.ErrArg)
	}
}

func repeat(line string, n int) string { return strings.Repeat(line+"\n", n) }

// C1: the number that others know.
func TestConstant(t *testing.T) {
	if parse.MaxOps != 4096 {
		t.Error(parse.MaxOps)
	}
}

// C1, C2: every form, alone and together.
func TestForms(t *testing.T) {
	mustRead(t, head, parse.File{Config: headConfig})
	mustWrite(t, parse.File{Config: headConfig}, head)
	mustRead(t, head+"task 12 13\n", parse.File{Config: headConfig, Tasks: []api.Task{{Mem: 12, Cost: 13}}})
	text, all := head+"task 0 1\ntask 1048576 0\n", parse.File{Config: headConfig, Tasks: []api.Task{{Mem: 0, Cost: 1}, {Mem: 1048576, Cost: 0}}}
	mustRead(t, text, all)
	mustWrite(t, all, text)
	for _, w := range written {
		one := parse.File{Config: headConfig, Ops: []api.Op{w.op}}
		mustRead(t, head+w.line+"\n", one)
		mustRead(t, head+w.line, one)
		mustWrite(t, one, head+w.line+"\n")
		text += w.line + "\n"
		all.Ops = append(all.Ops, w.op)
	}
	mustRead(t, text, all)
	mustWrite(t, all, text)
	// Operations stand in any order.
	slices.Reverse(all.Ops)
	lines := strings.SplitAfter(text, "\n")
	lines = lines[:len(lines)-1]
	slices.Reverse(lines[3:])
	mustRead(t, strings.Join(lines, ""), all)
	mustWrite(t, all, strings.Join(lines, ""))
}

// C2: a file of nothing has a config all the same.
func TestEmptyFile(t *testing.T) {
	const zeros = "config budget 0 slots 0 active 0 queue 0 tries 0 preempts 0 timeout 0 backoff 0 most 0 quantum 0\n"
	mustWrite(t, parse.File{}, zeros)
	mustWrite(t, parse.File{Tasks: []api.Task{}, Ops: []api.Op{}}, zeros)
	mustRead(t, zeros, parse.File{})
}

// C1: spaces, comments and empty lines do not matter, but lines are counted.
func TestSpaces(t *testing.T) {
	s := "# yard\n\n  " + strings.ReplaceAll(head, " ", "\t ") + "\r\n#\n task 1  2 # one\r\n\n\ttick#\n\n"
	mustRead(t, s, parse.File{Config: headConfig, Tasks: []api.Task{{Mem: 1, Cost: 2}}, Ops: []api.Op{{Kind: api.Tick}}})
	mustRefuse(t, s+"tick\n tack", 11, api.ErrSyntax)
	// A form is of one line.
	mustRefuse(t, head+"task 1\n2\n", 2, api.ErrSyntax)
	mustRefuse(t, head+"task 1 # 2\n", 2, api.ErrSyntax)
	mustRefuse(t, head+"tick tick\n", 2, api.ErrSyntax)
	mustRefuse(t, strings.Replace(head, "active", "\nactive", 1), 1, api.ErrSyntax)
}

// C1: no line at all.
func TestNoLine(t *testing.T) {
	for _, s := range []string{"", "\n", "\n\n", " \t\r", "#", "# config\n\n#"} {
		mustRefuse(t, s, 0, api.ErrSyntax)
	}
	if f, line, err := parse.Parse(nil); !same(f, parse.File{}) || line != 0 || err != api.ErrSyntax {
		t.Errorf("nil: %v %d %v", f, line, err)
	}
}

// C1: the config first, and once.
func TestConfigFirstAndOnce(t *testing.T) {
	mustRefuse(t, "task 1 2\n", 1, api.ErrSyntax)
	mustRefuse(t, "task 1 2\n"+head, 1, api.ErrSyntax)
	mustRefuse(t, head+head, 2, api.ErrSyntax)
	mustRefuse(t, head+"task 1 1\n"+head, 3, api.ErrSyntax)
	mustRefuse(t, head+"tick\n"+head, 3, api.ErrSyntax)
	mustRefuse(t, head+"config\n", 2, api.ErrSyntax)
	// It may not be there: what stands behind it is not asked.
	mustRefuse(t, head+strings.Replace(head, "10", "1048577", 1), 2, api.ErrSyntax)
	for _, w := range written {
		mustRefuse(t, w.line+"\n", 1, api.ErrSyntax)
		mustRefuse(t, "\n"+w.line+"\n"+head, 2, api.ErrSyntax)
	}
	mustRefuse(t, "submit 1048577 0 0\n", 1, api.ErrSyntax)
	mustRefuse(t, "task 1048577 0\n", 1, api.ErrSyntax)
}

// C1: tasks ahead of operations.
func TestTasksAheadOfOperations(t *testing.T) {
	for _, w := range written {
		mustRefuse(t, head+"task 1 1\n"+w.line+"\ntask 1 1\n", 4, api.ErrSyntax)
		mustRefuse(t, head+w.line+"\ntask 1 1\n", 3, api.ErrSyntax)
		mustRefuse(t, head+w.line+"\ntask 1048577 1\n", 3, api.ErrSyntax)
	}
}

// C1: 64 tasks, and one more.
func TestTasksAtMost(t *testing.T) {
	full := head + repeat("task 1 2", api.MaxTasks)
	tasks := slices.Repeat([]api.Task{{Mem: 1, Cost: 2}}, api.MaxTasks)
	mustRead(t, full, parse.File{Config: headConfig, Tasks: tasks})
	mustRead(t, full+"tick", parse.File{Config: headConfig, Tasks: tasks, Ops: []api.Op{{Kind: api.Tick}}})
	for _, more := range []string{"task 1 2", "task", "task 1", "task x", "task 1048577 2", "task 1 2 3", "task task"} {
		mustRefuse(t, full+more, 66, api.ErrFull)
		mustRefuse(t, full+more+"\nwhat\n", 66, api.ErrFull)
		mustRefuse(t, full+"tick\n"+more, 67, api.ErrSyntax)
	}
	mustRefuse(t, full+"tasks 1 2", 66, api.ErrSyntax)
	mustRefuse(t, full+"config", 66, api.ErrSyntax)
	mustRefuse(t, full+"1048577", 66, api.ErrSyntax)
	// An earlier line that is wrong is told first.
	mustRefuse(t, strings.Replace(full, "task 1 2\n", "task 1 x\n", 1)+"task 1 2", 2, api.ErrSyntax)
}

// C1: 4096 operations, and one more.
func TestOperationsAtMost(t *testing.T) {
	full := head + "task 3 4\n" + repeat("query 5", parse.MaxOps)
	file := parse.File{Config: headConfig, Tasks: []api.Task{{Mem: 3, Cost: 4}}, Ops: slices.Repeat([]api.Op{{Kind: api.Query, A: 5}}, parse.MaxOps)}
	mustRead(t, full, file)
	for _, w := range written {
		mustRefuse(t, full+w.line, 4099, api.ErrFull)
	}
	for _, more := range []string{"tick 1", "submit", "answer", "answer 1 2 maybe", "query 1048577", "cancel cancel", "dispatch\nwhat"} {
		mustRefuse(t, full+more, 4099, api.ErrFull)
	}
	for _, more := range []string{"task 1 1", "task", "config", head, "what", "5", "ticks"} {
		mustRefuse(t, full+more, 4099, api.ErrSyntax)
	}
}

// C1: which of several wrong things on a line is told.
func TestFirstWrongToken(t *testing.T) {
	for _, c := range []struct {
		line string
		err  api.Errno
	}{
		{"what", api.ErrSyntax},
		{"what 1048577", api.ErrSyntax},
		{"5", api.ErrSyntax},
		{"1048577", api.ErrSyntax},
		{"Tick", api.ErrSyntax},
		{"TASK 1 1", api.ErrSyntax},
		{"N", api.ErrSyntax},
		{"task", api.ErrSyntax},
		{"task 1", api.ErrSyntax},
		{"task 1 2 3", api.ErrSyntax},
		{"task 1 2 1048577", api.ErrSyntax},
		{"task N N", api.ErrSyntax},
		{"task 1048577", api.ErrRange},
		{"task 1048577 x", api.ErrRange},
		{"task x 1048577", api.ErrSyntax},
		{"task 1048577 01", api.ErrRange},
		{"task 01 1048577", api.ErrSyntax},
		{"task 1 1048577 x", api.ErrRange},
		{"submit 1 2", api.ErrSyntax},
		{"submit 1 2 3 4", api.ErrSyntax},
		{"submit 1 2 1048577", api.ErrRange},
		{"submit 1 2 00", api.ErrSyntax},
		{"submit tick", api.ErrSyntax},
		{"cancel", api.ErrSyntax},
		{"cancel 1048577 x", api.ErrRange},
		{"cancel 1 2", api.ErrSyntax},
		{"tick 1", api.ErrSyntax},
		{"tick 1048577", api.ErrSyntax},
		{"tick tick", api.ErrSyntax},
		{"dispatch 1", api.ErrSyntax},
		{"dispatch dispatch", api.ErrSyntax},
		{"query", api.ErrSyntax},
		{"query 1048577", api.ErrRange},
		{"query query", api.ErrSyntax},
		{"answer", api.ErrSyntax},
		{"answer 1", api.ErrSyntax},
		{"answer 1 2", api.ErrSyntax},
		{"answer 1 2 maybe", api.ErrSyntax},
		{"answer 1 2 Did", api.ErrSyntax},
		{"answer 1 2 3", api.ErrSyntax},
		{"answer 1 2 1048577", api.ErrSyntax},
		{"answer 1048577 2 maybe", api.ErrRange},
		{"answer 1 1048577 maybe", api.ErrRange},
		{"answer 1 did", api.ErrSyntax},
		{"answer did", api.ErrSyntax},
		{"answer 1 2 did 3", api.ErrSyntax},
		{"answer 1 2 did 1048577", api.ErrSyntax},
		{"answer 1 2 fail 3", api.ErrSyntax},
		{"answer 1 2 did fail", api.ErrSyntax},
		{"answer 1 2 need", api.ErrSyntax},
		{"answer 1 2 need did", api.ErrSyntax},
		{"answer 1 2 need 1048577", api.ErrRange},
		{"answer 1 2 need 1048577 5", api.ErrRange},
		{"answer 1 2 need 05", api.ErrSyntax},
		{"answer 1 2 need 3 4", api.ErrSyntax},
		{"answer 1 2 need 3 1048577", api.ErrSyntax},
		{"answer 1048577 2 need 05", api.ErrRange},
	} {
		mustRefuse(t, head+c.line, 2, c.err)
		mustRefuse(t, head+c.line+"\n\nwhat 1048577\n", 2, c.err)
		mustRefuse(t, head+"task 1 1\n\n"+c.line+"\ntask 1048577 1", 4, c.err)
	}
}

// C1: each of a config's tokens left out, doubled, or another one.
func TestConfigTokens(t *testing.T) {
	tokens := strings.Fields(head)
	for i := range tokens {
		without := slices.Delete(slices.Clone(tokens), i, i+1)
		mustRefuse(t, strings.Join(without, " "), 1, api.ErrSyntax)
		doubled := slices.Insert(slices.Clone(tokens), i, tokens[i])
		mustRefuse(t, strings.Join(doubled, " "), 1, api.ErrSyntax)
		for _, other := range []string{"1048577", "1048576", "01", "x", "N", "config"} {
			changed := slices.Clone(tokens)
			changed[i] = other
			aNumber := i > 0 && i%2 == 0
			switch {
			case aNumber && other == "1048577":
				mustRefuse(t, strings.Join(changed, " "), 1, api.ErrRange)
				mustRefuse(t, strings.Join(changed[:i+1], " "), 1, api.ErrRange)
			case aNumber && other == "1048576":
				got, line, err := parse.Parse([]byte(strings.Join(changed, " ")))
				want := fieldsOf(headConfig)
				want[i/2-1] = api.MaxNumber
				if fieldsOf(got.Config) != want || line != 0 || err != api.OK {
					t.Errorf("%v: %v %d %v", changed, got, line, err)
				}
			case other != tokens[i]:
				mustRefuse(t, strings.Join(changed, " "), 1, api.ErrSyntax)
			}
		}
	}
	// Words in another order are another line.
	mustRefuse(t, strings.Replace(head, "budget 10 slots 2", "slots 2 budget 10", 1), 1, api.ErrSyntax)
	mustRefuse(t, strings.ToUpper(head), 1, api.ErrSyntax)
}

func fieldsOf(c api.Config) [10]int {
	return [10]int{c.Budget, c.Slots, c.Active, c.Queue, c.Tries, c.Preempts, c.Timeout, c.Backoff, c.Most, c.Quantum}
}

// C1: numbers that num's Parse refuses, at every place of every form.
func TestNumbersThatAreRefused(t *testing.T) {
	lines := []string{"task 1 2"}
	for _, w := range written {
		lines = append(lines, w.line)
	}
	for _, line := range lines {
		tokens := strings.Fields(line)
		for i, token := range tokens {
			if token[0] > '9' {
				continue
			}
			for wrong, err := range map[string]api.Errno{"00": api.ErrSyntax, "01": api.ErrSyntax, "01048577": api.ErrSyntax, "1048577": api.ErrRange, "99999999999999999999999": api.ErrRange} {
				changed := slices.Clone(tokens)
				changed[i] = wrong
				mustRefuse(t, head+strings.Join(changed, " "), 2, err)
				mustRefuse(t, head+strings.Join(changed[:i+1], " "), 2, err)
			}
		}
	}
}

// C1: the line and error of Lex come ahead of all else.
func TestLexFirst(t *testing.T) {
	mustRefuse(t, head+"what\ntick;\n", 3, api.ErrSyntax)
	mustRefuse(t, head+"task 1048577 1\n\n5x", 4, api.ErrSyntax)
	mustRefuse(t, ";", 1, api.ErrSyntax)
	mustRefuse(t, "\n\n-1", 3, api.ErrSyntax)
	mustRefuse(t, head+"task -1 1\n", 2, api.ErrSyntax)
	mustRefuse(t, head+repeat("task 1 1", 65)+"a1", 67, api.ErrSyntax)
	room := lex.Most - len(head)
	mustRead(t, head+strings.Repeat(" ", room), parse.File{Config: headConfig})
	mustRefuse(t, head+strings.Repeat(" ", room+1), 0, api.ErrFull)
	mustRefuse(t, strings.Repeat("\n", lex.Most+1), 0, api.ErrFull)
	mustRefuse(t, strings.Repeat("\n", lex.Most), 0, api.ErrSyntax)
	mustRefuse(t, "what;"+strings.Repeat("\n", lex.Most), 0, api.ErrFull)
}

// beginnings is every beginning of every form behind the config, as tokens with a blank
// behind each; "." is a line's end.
func beginnings() map[string]bool {
	all := map[string]bool{}
	for _, s := range []string{"task N N", "submit N N N", "cancel N", "tick", "dispatch", "answer N N did", "answer N N fail", "answer N N need N", "query N"} {
		begun := ""
		for _, token := range append(strings.Fields(s), ".") {
			begun += token + " "
			all[begun] = true
		}
	}
	return all
}

// byBeginnings tells the error of a line behind a config another way: a token is wrong if no
// form begins with all up to it, and it was to be a number if one begins so with it as one.
func byBeginnings(all map[string]bool, tokens []string) api.Errno {
	begun := ""
	for i, token := range append(slices.Clone(tokens), ".") {
		switch {
		case token == "N":
			return api.ErrSyntax
		case all[begun+token+" "]:
			begun += token + " "
		case token[0] < '0' || token[0] > '9' || i == 0 || !all[begun+"N "]:
			return api.ErrSyntax
		case token == "01":
			return api.ErrSyntax
		case token == "1048577":
			return api.ErrRange
		default:
			begun += "N "
		}
	}
	return api.OK
}

// C1: every line of up to six tokens of several pools.
func TestAgainstBeginnings(t *testing.T) {
	all := beginnings()
	pools := []string{
		"answer did need 7 01 1048577",
		"answer fail need N 1048577 2",
		"task submit tick 3 1048577",
		"cancel query dispatch 1048576 01",
	}
	count := map[api.Errno]int{}
	for _, pool := range pools {
		lines := [][]string{{}}
		for from := 0; len(lines[from]) < 6; from++ {
			for _, token := range strings.Fields(pool) {
				lines = append(lines, append(slices.Clone(lines[from]), token))
			}
		}
		for _, tokens := range lines[1:] {
			s, want := head+strings.Join(tokens, " "), byBeginnings(all, tokens)
			count[want]++
			if want != api.OK {
				mustRefuse(t, s, 2, want)
				continue
			}
			f, line, err := parse.Parse([]byte(s))
			text, _ := parse.Text(f)
			if line != 0 || err != api.OK || text != s+"\n" {
				t.Errorf("%q: %v %d %v, written %q", s, f, line, err, text)
			}
		}
	}
	if len(count) != 3 {
		t.Errorf("%v: all that a line may come to must be tried", count)
	}
}

// C2: each number below 0 and above MaxNumber, and at both ends.
func TestNumbersThatAreNotWritten(t *testing.T) {
	places := map[string]func(f *parse.File) *int{
		"budget": func(f *parse.File) *int { return &f.Config.Budget }, "slots": func(f *parse.File) *int { return &f.Config.Slots },
		"active": func(f *parse.File) *int { return &f.Config.Active }, "queue": func(f *parse.File) *int { return &f.Config.Queue },
		"tries": func(f *parse.File) *int { return &f.Config.Tries }, "preempts": func(f *parse.File) *int { return &f.Config.Preempts },
		"timeout": func(f *parse.File) *int { return &f.Config.Timeout }, "backoff": func(f *parse.File) *int { return &f.Config.Backoff },
		"most": func(f *parse.File) *int { return &f.Config.Most }, "quantum": func(f *parse.File) *int { return &f.Config.Quantum },
		"mem": func(f *parse.File) *int { return &f.Tasks[1].Mem }, "cost": func(f *parse.File) *int { return &f.Tasks[1].Cost },
		"submit A": func(f *parse.File) *int { return &f.Ops[0].A }, "submit B": func(f *parse.File) *int { return &f.Ops[0].B },
		"submit C": func(f *parse.File) *int { return &f.Ops[0].C }, "cancel A": func(f *parse.File) *int { return &f.Ops[1].A },
		"did A": func(f *parse.File) *int { return &f.Ops[4].A }, "did B": func(f *parse.File) *int { return &f.Ops[4].B },
		"fail A": func(f *parse.File) *int { return &f.Ops[5].A }, "fail B": func(f *parse.File) *int { return &f.Ops[5].B },
		"need A": func(f *parse.File) *int { return &f.Ops[6].A }, "need B": func(f *parse.File) *int { return &f.Ops[6].B },
		"need D": func(f *parse.File) *int { return &f.Ops[6].D }, "query A": func(f *parse.File) *int { return &f.Ops[8].A },
	}
	for name, place := range places {
		f := parse.File{Config: headConfig, Tasks: make([]api.Task, 3)}
		for _, w := range written {
			f.Ops = append(f.Ops, w.op)
		}
		for _, n := range []int{0, 1, api.MaxNumber} {
			*place(&f) = n
			text, err := parse.Text(f)
			if err != api.OK {
				t.Errorf("%s %d: %v", name, n, err)
			}
			mustRead(t, text, f)
		}
		for _, n := range []int{-1, api.MaxNumber + 1, math.MinInt, math.MaxInt} {
			*place(&f) = n
			mustNotWrite(t, f)
		}
	}
}

// C2: an operation that is of no form.
func TestOperationsOfNoForm(t *testing.T) {
	for _, w := range written {
		used := map[string]int{"submit": 3, "cancel": 1, "tick": 0, "dispatch": 0, "query": 1}
		word := strings.Fields(w.line)[0]
		for i := range 4 {
			fields := func(op *api.Op) *int { return []*int{&op.A, &op.B, &op.C, &op.D}[i] }
			told := i < used[word]
			if word == "answer" {
				told = i < 2 || i == 3 && w.op.C == api.Need
			}
			for _, n := range []int{1, 2, 3, 4, 5, -1, math.MinInt} {
				op := w.op
				*fields(&op) = n
				// What an answer says may be another thing, if nothing else is told by it.
				if told && n >= 0 || op == w.op || word == "answer" && i == 2 && (n == 1 || n == 2 || n == 3) && op.D == 0 {
					continue
				}
				mustNotWrite(t, parse.File{Ops: []api.Op{op}})
				mustNotWrite(t, parse.File{Ops: []api.Op{{Kind: api.Tick}, op, {Kind: api.Tick}}})
			}
		}
	}
	for _, kind := range []int{0, 7, 8, -1, -2, math.MaxInt, math.MinInt} {
		for _, op := range []api.Op{{}, {A: 1}, {A: 1, B: 2}, {A: 1, B: 2, C: 3}, {A: 1, B: 2, C: 3, D: 4}} {
			op.Kind = kind
			mustNotWrite(t, parse.File{Ops: []api.Op{op}})
		}
	}
	for _, says := range []int{0, 4, 5, -1, api.MaxNumber} {
		mustNotWrite(t, parse.File{Ops: []api.Op{{Kind: api.Answer, C: says}}})
		mustNotWrite(t, parse.File{Ops: []api.Op{{Kind: api.Answer, C: says, D: 1}}})
	}
}

// C2: too many tasks, and too many operations.
func TestTooManyToWrite(t *testing.T) {
	tasks, ops := make([]api.Task, api.MaxTasks+1), slices.Repeat([]api.Op{{Kind: api.Tick}}, parse.MaxOps+1)
	full := parse.File{Config: headConfig, Tasks: tasks[1:], Ops: ops[1:]}
	mustWrite(t, full, head+repeat("task 0 0", 64)+repeat("tick", 4096))
	mustNotWrite(t, parse.File{Config: headConfig, Tasks: tasks})
	mustNotWrite(t, parse.File{Config: headConfig, Ops: ops})
	mustNotWrite(t, parse.File{Config: headConfig, Tasks: tasks, Ops: ops[1:]})
	mustNotWrite(t, parse.File{Config: headConfig, Tasks: tasks[1:], Ops: ops})
}

// numbers is a row of numbers that are the same at each run.
type numbers uint64

func (n *numbers) below(bound int) int {
	*n = *n*6364136223846793005 + 1442695040888963407
	return int(uint64(*n)>>33) % bound
}

func someFile(n *numbers) parse.File {
	any := func() int { return []int{0, 1, n.below(100), n.below(api.MaxNumber + 1), api.MaxNumber}[n.below(5)] }
	f := parse.File{Config: api.Config{Budget: any(), Slots: any(), Active: any(), Queue: any(), Tries: any(), Preempts: any(), Timeout: any(), Backoff: any(), Most: any(), Quantum: any()}}
	for range n.below(api.MaxTasks + 1) {
		f.Tasks = append(f.Tasks, api.Task{Mem: any(), Cost: any()})
	}
	for range n.below(200) {
		op := api.Op{Kind: 1 + n.below(6)}
		switch op.Kind {
		case api.Submit:
			op.A, op.B, op.C = any(), any(), any()
		case api.Cancel, api.Query:
			op.A = any()
		case api.Answer:
			op.A, op.B, op.C = any(), any(), 1+n.below(3)
			if op.C == api.Need {
				op.D = any()
			}
		}
		f.Ops = append(f.Ops, op)
	}
	return f
}

// What follows of C1 and C2: what is written is read.
func TestWhatIsWrittenIsRead(t *testing.T) {
	n := numbers(1)
	for range 300 {
		f := someFile(&n)
		text, err := parse.Text(f)
		if err != api.OK {
			t.Fatalf("%v: %v", f, err)
		}
		mustRead(t, text, f)
	}
}

// C1, C2: a text of more bytes than Lex takes is written all the same, as C2 names no bound of
// bytes; reading it is the error of Lex.
func TestLongText(t *testing.T) {
	f := parse.File{Config: headConfig, Ops: slices.Repeat([]api.Op{{Kind: api.Answer, A: 1048576, B: 1048576, C: api.Need, D: 1048576}}, parse.MaxOps)}
	text := head + repeat("answer 1048576 1048576 need 1048576", parse.MaxOps)
	mustWrite(t, f, text)
	mustRefuse(t, text, 0, api.ErrFull)
}

// R1: what is handed in stays as it was, and what is answered is the caller's.
func TestNothingIsShared(t *testing.T) {
	const s = head + "task 1 2\ncancel 3\n"
	b := []byte(s)
	f, _, _ := parse.Parse(b)
	if string(b) != s {
		t.Errorf("the bytes became %q", b)
	}
	want := parse.File{Config: headConfig, Tasks: []api.Task{{Mem: 1, Cost: 2}}, Ops: []api.Op{{Kind: api.Cancel, A: 3}}}
	clear(b)
	if !same(f, want) {
		t.Errorf("the file hangs on the bytes: %v", f)
	}
	if text, _ := parse.Text(f); text != s || !same(f, want) {
		t.Errorf("%q, and the file became %v", text, f)
	}
	f.Tasks[0], f.Ops[0] = api.Task{}, api.Op{}
	mustRead(t, s, want)
}
