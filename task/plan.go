package task

import (
	"ctrie/api"
	"ctrie/arena"
)

// Plan returns a task that makes the accesses of a list one after another.
func Plan(s arena.Store, l []api.Access) *Task {
	// The list may change before its accesses are made.
	own := permitted(l)
	return New(s, func() Code { return planned(own, api.Result{}) })
}

// permitted returns the Loads and CASs of a list in a new list.
func permitted(l []api.Access) []api.Access {
	var kept []api.Access
	for _, x := range l {
		if x.Kind == api.Load || x.Kind == api.CAS {
			kept = append(kept, x)
		}
	}
	return kept
}

// planned returns the code of the accesses that are left, where r is the result
// of those before them.
func planned(left []api.Access, r api.Result) Code {
	if len(left) == 0 {
		return Done(r)
	}
	x, rest := left[0], left[1:]
	if x.Kind == api.Load {
		return Load(x.Cell, func(contents api.Ref) Code {
			r.Ref = contents
			return planned(rest, r)
		})
	}
	return CAS(x.Cell, x.Old, x.New, func(swapped bool) Code {
		if swapped {
			r.Count++
		}
		return planned(rest, r)
	})
}
