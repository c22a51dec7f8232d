package task_test

import (
	"math"
	"slices"
	"testing"

	"ctrie/api"
	"ctrie/arena"
	"ctrie/node"
	"ctrie/statetest"
	"ctrie/task"
)

// full is a result with no field that is 0 or empty.
var full = api.Result{
	Err: api.ErrState, Found: true, Value: 5, Key: "k", Count: 3, Ref: 4, Trie: api.Trie{Root: 2, ReadOnly: true},
}

// watched is an arena that lists the calls of its methods as a Store, in order: the accesses as they are, and the names
// of the others.
type watched struct {
	*arena.Arena
	calls []any
}

func (w *watched) Alloc(n api.Node, initial api.Ref) api.Ref {
	w.calls = append(w.calls, "Alloc")
	return w.Arena.Alloc(n, initial)
}

func (w *watched) NewCell(initial api.Ref) api.Cell {
	w.calls = append(w.calls, "NewCell")
	return w.Arena.NewCell(initial)
}

func (w *watched) NewGen() int {
	w.calls = append(w.calls, "NewGen")
	return w.Arena.NewGen()
}

func (w *watched) Load(c api.Cell) api.Ref {
	w.calls = append(w.calls, load(c))
	return w.Arena.Load(c)
}

func (w *watched) CAS(c api.Cell, old, new api.Ref) bool {
	w.calls = append(w.calls, cas(c, old, new))
	return w.Arena.CAS(c, old, new)
}

func (w *watched) Node(r api.Ref) api.Node {
	w.calls = append(w.calls, "Node")
	return w.Arena.Node(r)
}

// load and cas return accesses.
func load(c api.Cell) api.Access { return api.Access{Kind: 1, Cell: c} }

func cas(c api.Cell, old, new api.Ref) api.Access {
	return api.Access{Kind: 2, Cell: c, Old: old, New: new}
}

// store returns a Store with the given contents of its cells, which has been called for nothing yet.
func store(cells ...api.Ref) *watched {
	a := arena.New()
	for _, r := range cells {
		a.NewCell(r)
	}
	return &watched{Arena: a}
}

// of returns a function that returns a code.
func of(c task.Code) func() task.Code {
	return func() task.Code { return c }
}

// toRef and toFound are the shortest functions that continue: they put into a result what the access returned.
func toRef(r api.Ref) task.Code { return task.Done(api.Result{Ref: r}) }

func toFound(swapped bool) task.Code { return task.Done(api.Result{Found: swapped}) }

// checkCalls reports an error if the calls of a Store, since the last check, are not as wanted.
func checkCalls(t *testing.T, what string, w *watched, want ...any) {
	t.Helper()
	if !slices.Equal(w.calls, want) {
		t.Errorf("%s: the calls are %v, want %v", what, w.calls, want)
	}
	w.calls = nil
}

// checkCells reports an error if the contents of the cells of a Store are not as wanted.
func checkCells(t *testing.T, what string, w *watched, want ...api.Ref) {
	t.Helper()
	if got := w.State().Cells; !slices.Equal(got, want) {
		t.Errorf("%s: the cells contain %v, want %v", what, got, want)
	}
}

// checkGoing reports an error if a task, as all its methods tell it, has not made the given number of steps, or if its
// next access is not as wanted.
func checkGoing(t *testing.T, x *task.Task, steps int, next api.Access) {
	t.Helper()
	for range 2 { // P11.2, R2: to look at a task changes nothing.
		if got, ok := x.Next(); got != next || !ok {
			t.Errorf("after %d steps: Next is %+v, %t, want %+v, true", steps, got, ok, next)
		}
		if x.Done() || x.Result() != (api.Result{}) || x.Steps() != steps {
			t.Errorf("after %d steps: Done is %t, Result %+v, Steps %d", steps, x.Done(), x.Result(), x.Steps())
		}
	}
}

// checkFinished reports an error if a task, as all its methods tell it, is not finished with the given result after the
// given number of steps.
func checkFinished(t *testing.T, x *task.Task, steps int, want api.Result) {
	t.Helper()
	for range 2 {
		if got, ok := x.Next(); got != (api.Access{}) || ok {
			t.Errorf("finished: Next is %+v, %t", got, ok)
		}
		if !x.Done() || x.Result() != want || x.Steps() != steps {
			t.Errorf("finished: Done is %t, Result %+v, Steps %d, want true, %+v, %d",
				x.Done(), x.Result(), x.Steps(), want, steps)
		}
	}
}

// TestDone: P11.1: a code of Done is finished with its result, whatever this is.
func TestDone(t *testing.T) {
	for _, r := range []api.Result{full, {}, {Found: true}, {Err: -1, Count: math.MinInt, Ref: -5}} {
		w := store(1)
		x := task.New(w, of(task.Done(r)))
		checkFinished(t, x, 0, r)
		checkCalls(t, "Done", w)
	}
}

// TestZeroCode: the zero Code is finished with the zero result, as the first code and as a later one.
func TestZeroCode(t *testing.T) {
	w := store(7)
	x := task.New(w, of(task.Code{}))
	checkFinished(t, x, 0, api.Result{})
	x.Step()
	checkFinished(t, x, 0, api.Result{})
	checkCalls(t, "the zero Code", w)

	x = task.New(w, of(task.Load(1, func(api.Ref) task.Code { return task.Code{} })))
	checkGoing(t, x, 0, load(1))
	x.Step()
	checkFinished(t, x, 1, api.Result{})
	checkCalls(t, "the zero Code after a Load", w, load(1))
}

// TestLoad: P11.1: a code of Load loads its cell and continues with the contents, also of a cell that there is not.
func TestLoad(t *testing.T) {
	contents := map[api.Cell]api.Ref{1: 5, 2: 0, 3: -6, 0: 0, -1: 0, 4: 0, math.MinInt: 0, math.MaxInt: 0}
	for c, want := range contents {
		w := store(5, 0, -6)
		x := task.New(w, of(task.Load(c, toRef)))
		checkGoing(t, x, 0, load(c))
		checkCalls(t, "Load before its step", w)
		x.Step()
		checkFinished(t, x, 1, api.Result{Ref: want})
		checkCalls(t, "Load", w, load(c))
		checkCells(t, "Load", w, 5, 0, -6)
	}
}

// TestCAS: P11.1: a code of CAS compares and swaps its cell, and continues with whether it did.
func TestCAS(t *testing.T) {
	for _, c := range []struct {
		access  api.Access
		swapped bool
		first   api.Ref // what the first cell contains then
	}{
		{cas(1, 5, 8), true, 8},
		{cas(1, 5, 5), true, 5},
		{cas(1, 5, 0), true, 0},
		{cas(1, 5, -1), true, -1},
		{cas(1, 8, 5), false, 5},
		{cas(1, 0, 8), false, 5},
		{cas(1, 8, 8), false, 5},
		{cas(0, 0, 8), false, 5},
		{cas(-1, 0, 8), false, 5},
		{cas(3, 0, 8), false, 5},
	} {
		w := store(5, 0)
		x := task.New(w, of(task.CAS(c.access.Cell, c.access.Old, c.access.New, toFound)))
		checkGoing(t, x, 0, c.access)
		checkCalls(t, "CAS before its step", w)
		checkCells(t, "CAS before its step", w, 5, 0)
		x.Step()
		checkFinished(t, x, 1, api.Result{Found: c.swapped})
		checkCalls(t, "CAS", w, c.access)
		checkCells(t, "CAS", w, c.first, 0)
	}
}

// TestNested: P11.1: codes one within another see what the accesses around them have returned.
func TestNested(t *testing.T) {
	w := store(3, 4)
	x := task.New(w, func() task.Code {
		return task.Load(1, func(a api.Ref) task.Code {
			return task.CAS(2, a, 9, func(first bool) task.Code {
				return task.CAS(2, a+1, 9, func(second bool) task.Code {
					return task.Load(2, func(b api.Ref) task.Code {
						if first || !second {
							return task.Done(full)
						}
						return task.Done(api.Result{Count: int(a), Ref: b, Found: second})
					})
				})
			})
		})
	})
	order := []api.Access{load(1), cas(2, 3, 9), cas(2, 4, 9), load(2)}
	for i, next := range order {
		checkGoing(t, x, i, next)
		checkCalls(t, "before a step", w)
		x.Step()
		checkCalls(t, "a step", w, next)
	}
	checkFinished(t, x, 4, api.Result{Count: 3, Ref: 9, Found: true})
	checkCells(t, "nested", w, 3, 9)
}

// follow returns a code that loads cells one after another: the next one is the one that the last one named, until one
// contains 0; its result has the number of Loads as Count and the last cell as Ref.
func follow(c api.Cell, before int) task.Code {
	return task.Load(c, func(r api.Ref) task.Code {
		if r == 0 {
			return task.Done(api.Result{Count: before + 1, Ref: api.Ref(c)})
		}
		return follow(api.Cell(r), before+1)
	})
}

// TestFollow: P11.1: a code whose next access depends on what the last one has returned, of any number of accesses, also
// if that changes while the task is under way.
func TestFollow(t *testing.T) {
	w := store(3, 0, 5, 2, 4)
	x := task.New(w, of(follow(1, 0)))
	for i, c := range []api.Cell{1, 3, 5, 4, 2} {
		checkGoing(t, x, i, load(c))
		x.Step()
		checkCalls(t, "a step", w, load(c))
	}
	checkFinished(t, x, 5, api.Result{Count: 5, Ref: 2})

	x = task.New(w, of(follow(1, 0)))
	x.Step()
	w.Arena.CAS(3, 5, 2)
	w.Arena.CAS(1, 3, 4) // This cell has been loaded already.
	x.Run(10)
	checkFinished(t, x, 3, api.Result{Count: 3, Ref: 2})

	const many = 100000
	w = store()
	for i := range many {
		w.Arena.NewCell(api.Ref((i + 2) % (many + 1)))
	}
	x = task.New(w, of(follow(1, 0)))
	if n := x.Run(2 * many); n != many {
		t.Errorf("Run made %d steps, want %d", n, many)
	}
	checkFinished(t, x, many, api.Result{Count: many, Ref: many})
}

// increase returns a code that increases the contents of a cell by one, and starts again if they have changed under way;
// its result has how often it has tried as Count, and the contents as Ref.
func increase(c api.Cell, before int) task.Code {
	return task.Load(c, func(r api.Ref) task.Code {
		return task.CAS(c, r, r+1, func(swapped bool) task.Code {
			if !swapped {
				return increase(c, before+1)
			}
			return task.Done(api.Result{Count: before + 1, Ref: r + 1})
		})
	})
}

// TestAgain: P11.1: a code that has failed starts again.
func TestAgain(t *testing.T) {
	w := store(0, 10)
	x := task.New(w, of(increase(2, 0)))
	x.Step()
	w.Arena.CAS(2, 10, 20)
	x.Step()
	checkGoing(t, x, 2, load(2))
	x.Step()
	checkGoing(t, x, 3, cas(2, 20, 21))
	x.Step()
	checkFinished(t, x, 4, api.Result{Count: 2, Ref: 21})
	checkCells(t, "increased", w, 0, 21)
	checkCalls(t, "increased", w, load(2), cas(2, 10, 11), load(2), cas(2, 20, 21))
}

// TestStart: P11.1: New calls start exactly once, at once, and makes no access; nothing calls it later.
func TestStart(t *testing.T) {
	w := store(1)
	before := w.State()
	started := 0
	x := task.New(w, func() task.Code {
		started++
		return task.Load(1, func(api.Ref) task.Code { return task.Load(1, toRef) })
	})
	if started != 1 {
		t.Errorf("New called start %d times", started)
	}
	checkGoing(t, x, 0, load(1))
	checkCalls(t, "New", w)
	if _, _, accesses := w.Counts(); accesses != 0 || !statetest.Same(w.State(), before) {
		t.Errorf("New has made %d accesses, or has changed the state", accesses)
	}
	x.Run(5)
	x.Step()
	if started != 1 {
		t.Errorf("start has been called %d times after all steps", started)
	}
}

// making returns a code that first allocates a node, begins a generation and adds a cell.
func making(s arena.Store, c task.Code) task.Code {
	s.Alloc(node.Inner(s.NewGen()), api.Ref(s.NewCell(0)))
	return c
}

// TestBetween: P11.1: what a code does between two accesses happens in the step of the earlier one, after this one; what
// it does before the first one happens in New; what it does after the last one, in the last step.
func TestBetween(t *testing.T) {
	w := store(6)
	x := task.New(w, func() task.Code {
		return making(w, task.Load(1, func(r api.Ref) task.Code {
			return making(w, task.CAS(1, r, 7, func(bool) task.Code {
				return making(w, task.Done(full))
			}))
		}))
	})
	made := []any{"NewGen", "NewCell", "Alloc"}
	checkCalls(t, "New", w, made...)
	checkGoing(t, x, 0, load(1))
	x.Step()
	checkCalls(t, "Load", w, append([]any{load(1)}, made...)...)
	checkGoing(t, x, 1, cas(1, 6, 7))
	x.Step()
	checkCalls(t, "CAS", w, append([]any{cas(1, 6, 7)}, made...)...)
	checkFinished(t, x, 2, full)
	x.Step()
	checkCalls(t, "finished", w)
	if nodes, cells, accesses := w.Counts(); nodes != 2+3 || cells != 1+6 || accesses != 2 || w.State().Gen != 3 {
		t.Errorf("%d nodes, %d cells, %d accesses, generation %d", nodes, cells, accesses, w.State().Gen)
	}
}

// TestSameCode: R2: a code can be executed by several tasks, on one Store and on others, and each begins at its start.
func TestSameCode(t *testing.T) {
	c := increase(1, 0)
	one, other := store(3), store(50)
	x, y, z := task.New(one, of(c)), task.New(one, of(c)), task.New(other, of(c))
	x.Step()
	checkGoing(t, y, 0, load(1))
	z.Run(2)
	x.Step()
	y.Run(2)
	checkFinished(t, x, 2, api.Result{Count: 1, Ref: 4})
	checkFinished(t, y, 2, api.Result{Count: 1, Ref: 5})
	checkFinished(t, z, 2, api.Result{Count: 1, Ref: 51})
	checkCells(t, "one Store", one, 5)
	checkCells(t, "the other Store", other, 51)
}
