package task_test

import (
	"math"
	"slices"
	"testing"

	"ctrie/api"
	"ctrie/statetest"
	"ctrie/task"
)

// after makes an access of a Store and returns the result of a plan that has made it, where r is the one before.
func after(w *watched, x api.Access, r api.Result) api.Result {
	switch {
	case x.Kind == api.Load:
		r.Ref = w.Arena.Load(x.Cell)
	case w.Arena.CAS(x.Cell, x.Old, x.New):
		r.Count++
	}
	return r
}

// made returns the accesses of a plan that are made: the Loads, without Old and New, and the CASs.
func made(l []api.Access) (kept []api.Access) {
	for _, x := range l {
		switch x.Kind {
		case api.Load:
			kept = append(kept, load(x.Cell))
		case api.CAS:
			kept = append(kept, x)
		}
	}
	return kept
}

// checkPlan reports an error if the task of a plan, on a Store with the given cells, does not make its accesses one after
// another, each with its effect, or has another result.
func checkPlan(t *testing.T, l []api.Access, cells ...api.Ref) {
	t.Helper()
	w, plain := store(cells...), store(cells...)
	x := task.Plan(w, l)
	checkCalls(t, "Plan", w)
	var want api.Result
	order := made(l)
	for i, next := range order {
		checkGoing(t, x, i, next)
		x.Step()
		checkCalls(t, "a step of a plan", w, next)
		want = after(plain, next, want)
		checkCells(t, "a step of a plan", w, plain.State().Cells...)
	}
	checkFinished(t, x, len(order), want)
	x.Step()
	checkFinished(t, x, len(order), want)
	checkCalls(t, "behind a plan", w)
	if t.Failed() {
		t.Fatalf("the plan is %+v", l)
	}
}

// several are accesses of every sort, for cells that contain 5 and 0: Loads, also with Old and New, CASs that succeed and
// that fail, of cells that there are not, and accesses of other kinds.
var several = []api.Access{
	load(1), load(2), {Kind: api.Load, Cell: 1, Old: 5, New: 6}, load(0),
	cas(1, 5, 6), cas(1, 6, 5), cas(2, 0, 5), cas(2, 5, 0), cas(1, 5, 5), cas(3, 0, 5),
	{Cell: 1, Old: 5, New: 6}, {Kind: 3, Cell: 1, Old: 5, New: 6},
}

// TestPlans: P11.4: all plans of at most three accesses of every sort.
func TestPlans(t *testing.T) {
	checkPlan(t, nil, 5, 0)
	checkPlan(t, []api.Access{}, 5, 0)
	for _, x := range several {
		checkPlan(t, []api.Access{x}, 5, 0)
		for _, y := range several {
			checkPlan(t, []api.Access{x, y}, 5, 0)
			for _, z := range several {
				checkPlan(t, []api.Access{x, y, z}, 5, 0)
			}
		}
	}
}

// TestResults: P11.4: Count is the number of CASs that succeeded, and Ref what the last Load returned, also if that is 0;
// the other fields are zero.
func TestResults(t *testing.T) {
	for _, c := range []struct {
		plan  []api.Access
		steps int
		want  api.Result
	}{
		{nil, 0, api.Result{}},
		{[]api.Access{load(1)}, 1, api.Result{Ref: 5}},
		{[]api.Access{load(1), load(2)}, 2, api.Result{}},
		{[]api.Access{load(2), load(1)}, 2, api.Result{Ref: 5}},
		{[]api.Access{load(1), cas(1, 5, 6)}, 2, api.Result{Count: 1, Ref: 5}},
		{[]api.Access{load(1), cas(1, 6, 5)}, 2, api.Result{Ref: 5}},
		{[]api.Access{load(1), load(3)}, 2, api.Result{}},
		{[]api.Access{cas(1, 5, 6), cas(1, 5, 7), cas(1, 6, 7), load(1), cas(1, 7, 8)}, 5, api.Result{Count: 3, Ref: 7}},
		{[]api.Access{cas(2, 0, 0), cas(2, 0, 0), cas(2, 0, 0)}, 3, api.Result{Count: 3}},
	} {
		x := task.Plan(store(5, 0), c.plan)
		x.Run(100)
		checkFinished(t, x, c.steps, c.want)
	}
}

// TestNoCells: P11.4: accesses of cells that there are not are made: a Load returns 0, and a CAS fails.
func TestNoCells(t *testing.T) {
	for _, c := range []api.Cell{math.MinInt, -1, 0, 3, 4, math.MaxInt} {
		checkPlan(t, []api.Access{load(c), cas(c, 0, 1), load(c)}, 5, 0)
		checkPlan(t, []api.Access{load(1), load(c), cas(1, 5, 3), cas(c, 0, 0), cas(c, 5, 0)}, 5, 0)
		w := store(5, 0)
		x := task.Plan(w, []api.Access{load(1), cas(c, 0, 1), load(c)})
		x.Run(3)
		checkFinished(t, x, 3, api.Result{})
		checkCalls(t, "cells that there are not", w, load(1), cas(c, 0, 1), load(c))
	}
	checkPlan(t, []api.Access{load(1), cas(1, 0, 1)})
}

// TestOtherKinds: P11.4: accesses of other kinds are left out, alone, and before, between and behind Loads and CASs.
func TestOtherKinds(t *testing.T) {
	for _, kind := range []int{math.MinInt, -2, -1, 0, 3, 4, 256 + api.Load, 256 + api.CAS, math.MaxInt} {
		other := api.Access{Kind: kind, Cell: 1, Old: 5, New: 6}
		x := task.Plan(store(5), []api.Access{other, other})
		checkFinished(t, x, 0, api.Result{})
		w := store(5)
		x = task.Plan(w, []api.Access{other, load(1), other, other, cas(1, 5, 7), other})
		checkGoing(t, x, 0, load(1))
		if n := x.Run(100); n != 2 {
			t.Errorf("kind %d: Run made %d steps, want 2", kind, n)
		}
		checkFinished(t, x, 2, api.Result{Count: 1, Ref: 5})
		checkCalls(t, "other kinds", w, load(1), cas(1, 5, 7))
	}
	checkPlan(t, make([]api.Access, 100000), 5)
}

// TestLongPlan: P11.4: a plan of many accesses.
func TestLongPlan(t *testing.T) {
	var l []api.Access
	for i := range 100000 {
		l = append(l, cas(1, api.Ref(i), api.Ref(i+1)), load(1))
	}
	x := task.Plan(store(0), l)
	if n := x.Run(math.MaxInt); n != len(l) {
		t.Errorf("Run made %d steps, want %d", n, len(l))
	}
	checkFinished(t, x, len(l), api.Result{Count: 100000, Ref: 100000})
}

// TestPlanKeepsNothing: R3: Plan does not change its list, nor the memory around it, and a list that is changed after Plan,
// and between the steps, changes nothing.
func TestPlanKeepsNothing(t *testing.T) {
	l := []api.Access{load(1), {Kind: 9}, cas(1, 5, 7), cas(2, 1, 2), load(1)}
	part, whole := statetest.Around(l, cas(77, 77, 77))
	before := slices.Clone(whole)
	w := store(5, 0)
	x := task.Plan(w, part)
	for _, next := range made(l) {
		if !slices.Equal(whole, before) {
			t.Errorf("the list, with the memory around it, is %+v, was %+v", whole, before)
		}
		for i := range whole {
			whole[i] = cas(2, 0, 9)
		}
		if got, _ := x.Next(); got != next {
			t.Errorf("Next is %+v, want %+v", got, next)
		}
		x.Step()
		copy(whole, before)
	}
	checkFinished(t, x, 4, api.Result{Count: 1, Ref: 7})
	checkCells(t, "a plan whose list changes", w, 7, 0)
}

// TestExample: the example of the chapter.
func TestExample(t *testing.T) {
	w := store(0)
	x := task.Plan(w, []api.Access{load(1), cas(1, 0, 2)})
	if n := x.Run(10); n != 2 {
		t.Errorf("the plan makes %d steps, want 2", n)
	}
	checkFinished(t, x, 2, api.Result{Count: 1, Ref: 0})
	checkCells(t, "the example", w, 2)
}
