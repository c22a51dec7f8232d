package task_test

import (
	"math"
	"slices"
	"testing"

	"ctrie/api"
	"ctrie/statetest"
	"ctrie/task"
)

// chain returns a code that makes n accesses of the cell 1, a Load first, then CASs and Loads in turn, and is finished
// with the full result.
func chain(n int) task.Code {
	if n == 0 {
		return task.Done(full)
	}
	return task.Load(1, func(r api.Ref) task.Code {
		if n == 1 {
			return task.Done(full)
		}
		return task.CAS(1, r, r+1, func(bool) task.Code { return chain(n - 2) })
	})
}

// accesses returns the accesses of chain if the cell 1 contains first.
func accesses(n int, first api.Ref) (l []any) {
	for i := range n {
		r := first + api.Ref(i/2)
		if i%2 == 0 {
			l = append(l, load(1))
		} else {
			l = append(l, cas(1, r, r+1))
		}
	}
	return l
}

// TestNext: P11.2: Next tells the access of the next step, for a Load with Old and New 0, and makes no access; behind the
// last step it returns the zero access and false.
func TestNext(t *testing.T) {
	w := store(8)
	x := task.New(w, of(chain(5)))
	for i, next := range accesses(5, 8) {
		before := w.State()
		checkGoing(t, x, i, next.(api.Access))
		checkCalls(t, "Next", w)
		if !statetest.Same(w.State(), before) {
			t.Errorf("Next has changed the state before step %d", i)
		}
		x.Step()
		checkCalls(t, "Step", w, next)
	}
	checkFinished(t, x, 5, full)
	checkCalls(t, "Next of a finished task", w)
}

// TestStep: P11.2: Step makes exactly one access, with its effect.
func TestStep(t *testing.T) {
	w := store(8, 30)
	x := task.New(w, of(chain(6)))
	for i, r := range []api.Ref{8, 9, 9, 10, 10, 11} {
		x.Step()
		if _, _, n := w.Counts(); n != i+1 || x.Steps() != i+1 {
			t.Errorf("%d steps: %d accesses, Steps is %d", i+1, n, x.Steps())
		}
		checkCells(t, "a step", w, r, 30)
	}
	checkFinished(t, x, 6, full)
}

// TestFinished: P11.2, P11.3: Step and Run do nothing on a finished task.
func TestFinished(t *testing.T) {
	for n := range 4 {
		w := store(2)
		x := task.New(w, of(chain(n)))
		if made := x.Run(n); made != n {
			t.Errorf("Run made %d steps, want %d", made, n)
		}
		checkCalls(t, "all steps", w, accesses(n, 2)...)
		before := w.State()
		for range 3 {
			x.Step()
			for _, most := range []int{math.MinInt, -1, 0, 1, 2, 100, math.MaxInt} {
				if made := x.Run(most); made != 0 {
					t.Errorf("Run(%d) of a finished task made %d steps", most, made)
				}
			}
			checkFinished(t, x, n, full)
		}
		checkCalls(t, "a finished task", w)
		if !statetest.Same(w.State(), before) {
			t.Errorf("a finished task of %d steps has changed the state", n)
		}
	}
}

// TestRun: P11.2: Run makes steps until the task is finished or most have been made, and returns how many, at the
// beginning of a task and in the middle.
func TestRun(t *testing.T) {
	const all = 6
	numbers := []int{math.MinInt, -2, -1, 0, 1, 2, 3, all - 1, all, all + 1, 1000, math.MaxInt}
	for _, first := range numbers {
		for _, second := range numbers {
			w := store(5)
			x := task.New(w, of(chain(all)))
			made := 0
			for _, most := range []int{first, second} {
				want := min(max(most, 0), all-made)
				if got := x.Run(most); got != want {
					t.Errorf("Run(%d) after %d steps made %d, want %d", most, made, got, want)
				}
				made += want
			}
			checkMade(t, x, w, made, all)
		}
	}
}

// checkMade reports an error if a task of the code chain(all), on a Store whose cell 1 contained 5, is not where it is
// after the given number of steps.
func checkMade(t *testing.T, x *task.Task, w *watched, made, all int) {
	t.Helper()
	l := accesses(all, 5)
	checkCalls(t, "Run", w, l[:made]...)
	if made == all {
		checkFinished(t, x, all, full)
	} else {
		checkGoing(t, x, made, l[made].(api.Access))
	}
}

// TestWhile: P11.3: Done, Result and Steps before, between and behind the steps.
func TestWhile(t *testing.T) {
	for n := range 8 {
		x := task.New(store(5), of(chain(n)))
		for i := range n {
			if x.Done() || x.Result() != (api.Result{}) || x.Steps() != i {
				t.Errorf("%d of %d steps: Done %t, Result %+v, Steps %d", i, n, x.Done(), x.Result(), x.Steps())
			}
			x.Step()
		}
		if !x.Done() || x.Result() != full || x.Steps() != n {
			t.Errorf("all of %d steps: Done %t, Result %+v, Steps %d", n, x.Done(), x.Result(), x.Steps())
		}
	}
}

// orders calls f with each order of the given numbers of steps of the tasks 0 and 1.
func orders(zeros, ones int, before []int, f func(order []int)) {
	if zeros+ones == 0 {
		f(before)
	}
	if zeros > 0 {
		orders(zeros-1, ones, append(slices.Clone(before), 0), f)
	}
	if ones > 0 {
		orders(zeros, ones-1, append(slices.Clone(before), 1), f)
	}
}

// TestTwoTasks: P11.2: two tasks on one Store may be stepped in any order: each step makes the access of its own task,
// and both tasks see what the other one does.
func TestTwoTasks(t *testing.T) {
	plans := [][]api.Access{
		{load(1), cas(1, 3, 4), cas(2, 6, 3), load(2)},
		{cas(1, 4, 6), load(1), cas(2, 9, 6), load(2)},
	}
	orders(4, 4, nil, func(order []int) {
		w, plain := store(3, 9), store(3, 9)
		x := []*task.Task{task.Plan(w, plans[0]), task.Plan(w, plans[1])}
		var want [2]api.Result
		var made [2]int
		for _, i := range order {
			next := plans[i][made[i]]
			checkGoing(t, x[i], made[i], next)
			x[i].Step()
			checkCalls(t, "a step", w, next)
			want[i] = after(plain, next, want[i])
			made[i]++
		}
		checkFinished(t, x[0], 4, want[0])
		checkFinished(t, x[1], 4, want[1])
		checkCells(t, "two tasks", w, plain.State().Cells...)
	})
}

// TestTwoIncreases: two tasks that increase a cell and start again when the other one has been faster increase it twice,
// in whatever order they are stepped.
func TestTwoIncreases(t *testing.T) {
	orders(4, 4, nil, func(order []int) {
		w := store(5)
		x := []*task.Task{task.New(w, of(increase(1, 0))), task.New(w, of(increase(1, 0)))}
		for _, i := range order {
			x[i].Step()
		}
		tries := x[0].Result().Count + x[1].Result().Count
		if !x[0].Done() || !x[1].Done() || 2*tries != x[0].Steps()+x[1].Steps() {
			t.Errorf("%v: %+v, %d steps, and %+v, %d steps", order, x[0].Result(), x[0].Steps(), x[1].Result(), x[1].Steps())
		}
		checkCells(t, "two increases", w, 7)
	})
}

// TestPanics: R1: neither nil functions, nor functions that panic, nor a Store that does, let a task panic; it is finished
// with the zero result where its code is missing.
func TestPanics(t *testing.T) {
	bad := func() task.Code { panic("bad") }
	for _, start := range []func() task.Code{nil, bad, func() task.Code { panic(nil) }} {
		x := task.New(store(1), start)
		x.Step()
		checkFinished(t, x, 0, api.Result{})
	}
	for next, c := range map[api.Access]task.Code{
		load(1):      task.Load(1, nil),
		load(2):      task.Load(2, func(api.Ref) task.Code { return bad() }),
		cas(1, 1, 2): task.CAS(1, 1, 2, nil),
		cas(2, 7, 6): task.CAS(2, 7, 6, func(bool) task.Code { return bad() }),
	} {
		w := store(1, 7)
		x := task.New(w, of(c))
		checkGoing(t, x, 0, next)
		x.Step()
		checkFinished(t, x, 1, api.Result{})
		checkCalls(t, "no code after an access", w, next)
		if next.Kind == api.CAS && w.Arena.Load(next.Cell) != next.New {
			t.Errorf("the access %+v had no effect", next)
		}
	}
	for _, c := range []task.Code{chain(3), task.CAS(1, 0, 1, toFound)} {
		x := task.New(nil, of(c))
		if x.Run(5); !x.Done() || x.Result() != (api.Result{}) {
			t.Errorf("without a Store: Done %t, Result %+v", x.Done(), x.Result())
		}
	}
	task.Plan(nil, []api.Access{load(1), cas(1, 0, 1)}).Run(math.MaxInt)
}

// TestOwnTask: R1: a code that makes steps of its own task comes to an end: inside a step there is no other one.
func TestOwnTask(t *testing.T) {
	w := store(1)
	var x *task.Task
	inside := 0
	x = task.New(w, of(task.Load(1, func(r api.Ref) task.Code {
		x.Step()
		inside += x.Run(math.MaxInt)
		if x.Done() || x.Result() != (api.Result{}) || x.Steps() != 0 {
			t.Errorf("inside: Done %t, Result %+v, Steps %d", x.Done(), x.Result(), x.Steps())
		}
		return task.CAS(1, r, 5, toFound)
	})))
	x.Step()
	checkGoing(t, x, 1, cas(1, 1, 5))
	x.Step()
	checkFinished(t, x, 2, api.Result{Found: true})
	checkCalls(t, "its own task", w, load(1), cas(1, 1, 5))
	if inside != 0 {
		t.Errorf("inside a step, Run made %d", inside)
	}
}

// TestOtherTask: a code may make steps of another task.
func TestOtherTask(t *testing.T) {
	w := store(1)
	y := task.New(w, of(chain(2)))
	x := task.New(w, of(task.Load(1, func(api.Ref) task.Code {
		y.Run(2)
		return task.Load(1, toRef)
	})))
	x.Run(2)
	checkFinished(t, x, 2, api.Result{Ref: 2})
	checkFinished(t, y, 2, full)
	checkCalls(t, "another task", w, load(1), load(1), cas(1, 1, 2), load(1))
}

// TestZeroTask: R1: the zero Task is finished, with the zero result.
func TestZeroTask(t *testing.T) {
	var x task.Task
	x.Step()
	if n := x.Run(3); n != 0 {
		t.Errorf("Run of the zero Task made %d steps", n)
	}
	checkFinished(t, &x, 0, api.Result{})
}
