// Package ts is layer 1: logical times: see shared/doc/01-ts.md.
package ts

import (
	"cmp"
	"slices"

	"meander/api"
)

// At is the time of that epoch with those counters; counters beyond the deepest scope are left out.
func At(epoch int, loops ...int) api.Time {
	t := api.Time{Epoch: epoch}
	t.Depth = copy(t.L[:], loops)
	return t
}

// May tells whether a time may be.
func May(t api.Time) bool {
	if t.Epoch < 0 || t.Epoch > api.MaxEpoch || !depthMay(t.Depth) {
		return false
	}
	for i, n := range t.L {
		if n < 0 || n > highest(i, t.Depth) {
			return false
		}
	}
	return true
}

// LessEq is the partial order of times.
func LessEq(a, b api.Time) bool {
	if !likeDepth(a, b) || a.Epoch > b.Epoch {
		return false
	}
	for i := range a.Depth {
		if a.L[i] > b.L[i] {
			return false
		}
	}
	return true
}

// Less is LessEq one way alone.
func Less(a, b api.Time) bool {
	return LessEq(a, b) && !LessEq(b, a)
}

// Join is the least time above both.
func Join(a, b api.Time) (api.Time, api.Errno) {
	if !likeDepth(a, b) {
		return api.Time{}, api.ErrArg
	}
	t := api.Time{Epoch: max(a.Epoch, b.Epoch), Depth: a.Depth}
	for i := range t.Depth {
		t.L[i] = max(a.L[i], b.L[i])
	}
	return t, api.OK
}

// Meet is the greatest time below both.
func Meet(a, b api.Time) (api.Time, api.Errno) {
	if !likeDepth(a, b) {
		return api.Time{}, api.ErrArg
	}
	t := api.Time{Epoch: min(a.Epoch, b.Epoch), Depth: a.Depth}
	for i := range t.Depth {
		t.L[i] = min(a.L[i], b.L[i])
	}
	return t, api.OK
}

// Order is a total order: what is less stands ahead. All counters count, those behind Depth too, so that only like times are the same.
func Order(a, b api.Time) int {
	if c := cmp.Compare(a.Depth, b.Depth); c != 0 {
		return c
	}
	if c := cmp.Compare(a.Epoch, b.Epoch); c != 0 {
		return c
	}
	for i := range a.L {
		if c := cmp.Compare(a.L[i], b.L[i]); c != 0 {
			return c
		}
	}
	return 0
}

// Sort is the times in their order, in a list of its own.
func Sort(l []api.Time) []api.Time {
	sorted := make([]api.Time, len(l))
	copy(sorted, l)
	slices.SortFunc(sorted, Order)
	return sorted
}

func depthMay(depth int) bool {
	return depth >= 0 && depth <= api.MaxDepth
}

// highest is what the counter at i may be at most: behind the depth there is no loop that could count.
func highest(i, depth int) int {
	if i < depth {
		return api.MaxLoop
	}
	return 0
}

// likeDepth guards what goes through the counters: a depth that is none would lead outside them.
func likeDepth(a, b api.Time) bool {
	return a.Depth == b.Depth && depthMay(a.Depth)
}
