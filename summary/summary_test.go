package summary

import (
	"math"
	"testing"

	"meander/api"
	"meander/ts"
)

// raw is a summary as it is written, whether it may be or not.
func raw(from, to, keep, epochs int, add ...int) api.Summary {
	s := api.Summary{From: from, To: to, Keep: keep, Epochs: epochs}
	copy(s.Add[:], add)
	return s
}

// noDepths are depths that there are not.
var noDepths = []int{-1, 4, 5, math.MinInt, math.MaxInt}

// wrong are summaries that may not be, each for one reason.
func wrong() []api.Summary {
	l := []api.Summary{
		raw(0, 0, -1, 0),
		raw(3, 3, math.MinInt, 0),
		raw(0, 0, 1, 0),
		raw(1, 2, 2, 0),
		raw(2, 1, 2, 0),
		raw(3, 0, 1, 0),
		raw(0, 3, 1, 0),
		raw(3, 3, 4, 0),
		raw(3, 3, math.MaxInt, 0),
		raw(1, 1, 1, -1),
		raw(1, 1, 1, 1<<20+1),
		raw(1, 1, 1, math.MinInt),
		raw(1, 1, 1, math.MaxInt),
		raw(1, 1, 1, 0, -1),
		raw(1, 1, 1, 0, 1001),
		raw(1, 1, 0, 0, 1001),
		raw(2, 2, 2, 0, 0, -1),
		raw(2, 2, 1, 0, 0, 1001),
		raw(3, 3, 3, 0, 0, 0, -1),
		raw(3, 3, 2, 0, 0, 0, 1001),
		raw(3, 3, 3, 0, math.MaxInt, math.MinInt, math.MaxInt),
		raw(0, 0, 0, 0, 1),
		raw(3, 0, 0, 0, 0, 1),
		raw(3, 0, 0, 0, 0, 0, 1),
		raw(3, 1, 1, 0, 1, 1),
		raw(3, 1, 1, 0, 1, -1),
		raw(3, 2, 2, 0, 1, 1, 1),
		raw(3, 2, 2, 0, 1, 1, -1),
	}
	for _, d := range noDepths {
		l = append(l, raw(d, 0, 0, 0), raw(0, d, 0, 0), raw(d, d, 0, 0), raw(d, d, d, 0))
	}
	return l
}

// few is every summary that may be of one From and one To whose numbers are of these.
func few(from, to int, of ...int) []api.Summary {
	all := []api.Summary{}
	for keep := range min(from, to) + 1 {
		for _, n := range of {
			all = append(all, raw(from, to, keep, n))
		}
	}
	for i := range to {
		wider := []api.Summary{}
		for _, s := range all {
			for _, n := range of {
				s.Add[i] = n
				wider = append(wider, s)
			}
		}
		all = wider
	}
	return all
}

// fewTimes is every time of one depth whose numbers are of these.
func fewTimes(depth int, of ...int) []api.Time {
	all := []api.Time{}
	for _, n := range of {
		all = append(all, api.Time{Epoch: n, Depth: depth})
	}
	for i := range depth {
		wider := []api.Time{}
		for _, t := range all {
			for _, n := range of {
				t.L[i] = n
				wider = append(wider, t)
			}
		}
		all = wider
	}
	return all
}

// path is what the steps do, one behind the other.
func path(t *testing.T, first api.Summary, rest ...api.Summary) api.Summary {
	t.Helper()
	for _, r := range rest {
		both, e := Then(first, r)
		if e != api.OK {
			t.Fatal(first, r, e)
		}
		first = both
	}
	return first
}

// P2.1

func TestSteps(t *testing.T) {
	none := api.Summary{}
	for depth, x := range [][4]api.Summary{
		{raw(0, 0, 0, 0), raw(0, 1, 0, 0), none, none},
		{raw(1, 1, 1, 0), raw(1, 2, 1, 0), raw(1, 0, 0, 0), raw(1, 1, 1, 0, 1)},
		{raw(2, 2, 2, 0), raw(2, 3, 2, 0), raw(2, 1, 1, 0), raw(2, 2, 2, 0, 0, 1)},
		{raw(3, 3, 3, 0), none, raw(3, 2, 2, 0), raw(3, 3, 3, 0, 0, 0, 1)},
	} {
		got := [4]api.Summary{Same(depth), Enter(depth), Leave(depth), Feed(depth)}
		if got != x {
			t.Error(depth, got)
		}
		for _, s := range got {
			if !May(s) {
				t.Error("may not be", s)
			}
		}
	}
}

func TestStepsOfNoDepth(t *testing.T) {
	for _, d := range noDepths {
		got := [4]api.Summary{Same(d), Enter(d), Leave(d), Feed(d)}
		if got != ([4]api.Summary{}) {
			t.Error(d, got)
		}
	}
}

func TestMay(t *testing.T) {
	for _, s := range []api.Summary{
		{},
		raw(0, 0, 0, 1<<20),
		raw(0, 3, 0, 0),
		raw(3, 0, 0, 0),
		raw(3, 0, 0, 1<<20),
		raw(1, 2, 1, 0),
		raw(1, 2, 0, 0),
		raw(2, 1, 1, 0),
		raw(2, 1, 0, 0),
		raw(3, 3, 0, 0),
		raw(3, 3, 3, 0),
		raw(0, 1, 0, 0, 1000),
		raw(0, 2, 0, 0, 1000, 1000),
		raw(0, 3, 0, 1<<20, 1000, 1000, 1000),
		raw(3, 3, 3, 1<<20, 1000, 1000, 1000),
		raw(3, 3, 1, 7, 0, 1000, 0),
	} {
		if !May(s) {
			t.Error(s)
		}
	}
	for _, s := range wrong() {
		if May(s) {
			t.Error(s)
		}
	}
}

// P2.2

func TestApply(t *testing.T) {
	for i, x := range []struct {
		s    api.Summary
		t    api.Time
		want api.Time
	}{
		{path(t, Enter(0), Feed(1)), ts.At(5), ts.At(5, 1)},
		{Same(0), ts.At(0), ts.At(0)},
		{Same(0), ts.At(1 << 20), ts.At(1 << 20)},
		{Same(3), ts.At(9, 1, 2, 3), ts.At(9, 1, 2, 3)},
		{Same(3), ts.At(1<<20, 1000, 1000, 1000), ts.At(1<<20, 1000, 1000, 1000)},
		{Enter(0), ts.At(9), ts.At(9, 0)},
		{Enter(2), ts.At(9, 1, 2), ts.At(9, 1, 2, 0)},
		{Leave(1), ts.At(9, 1000), ts.At(9)},
		{Leave(3), ts.At(9, 1, 2, 3), ts.At(9, 1, 2)},
		{Feed(1), ts.At(9, 0), ts.At(9, 1)},
		{Feed(1), ts.At(9, 999), ts.At(9, 1000)},
		{Feed(3), ts.At(9, 1, 2, 3), ts.At(9, 1, 2, 4)},
		{raw(0, 0, 0, 1), ts.At(1<<20 - 1), ts.At(1 << 20)},
		{raw(0, 0, 0, 1<<20), ts.At(0), ts.At(1 << 20)},
		{raw(3, 3, 0, 2, 4, 5, 6), ts.At(9, 1, 2, 3), ts.At(11, 4, 5, 6)},
		{raw(3, 3, 1, 2, 4, 5, 6), ts.At(9, 1, 2, 3), ts.At(11, 5, 5, 6)},
		{raw(3, 3, 2, 2, 4, 5, 6), ts.At(9, 1, 2, 3), ts.At(11, 5, 7, 6)},
		{raw(3, 3, 3, 2, 4, 5, 6), ts.At(9, 1, 2, 3), ts.At(11, 5, 7, 9)},
		{raw(3, 1, 1, 0, 7), ts.At(9, 993, 1000, 1000), ts.At(9, 1000)},
		{raw(3, 3, 0, 0, 1000, 1000, 1000), ts.At(9, 1000, 1000, 1000), ts.At(9, 1000, 1000, 1000)},
		{raw(3, 3, 3, 0, 1000, 1000, 1000), ts.At(9, 0, 0, 0), ts.At(9, 1000, 1000, 1000)},
		{raw(1, 3, 1, 0, 1, 2, 3), ts.At(9, 4), ts.At(9, 5, 2, 3)},
		{raw(3, 0, 0, 0), ts.At(9, 1, 2, 3), ts.At(9)},
	} {
		if got, e := Apply(x.s, x.t); got != x.want || e != api.OK {
			t.Error(i, got, e)
		}
	}
}

func TestApplyOver(t *testing.T) {
	for i, x := range []struct {
		s api.Summary
		t api.Time
	}{
		{raw(0, 0, 0, 1), ts.At(1 << 20)},
		{raw(0, 0, 0, 1<<20), ts.At(1)},
		{raw(0, 0, 0, 1<<20), ts.At(1 << 20)},
		{Feed(1), ts.At(9, 1000)},
		{Feed(2), ts.At(9, 0, 1000)},
		{Feed(3), ts.At(9, 0, 0, 1000)},
		{raw(3, 3, 3, 0, 1000, 0, 0), ts.At(9, 1, 0, 0)},
		{raw(3, 3, 1, 0, 1000, 0, 0), ts.At(9, 1000, 0, 0)},
		{raw(3, 3, 2, 0, 0, 500, 0), ts.At(9, 0, 501, 0)},
	} {
		if got, e := Apply(x.s, x.t); got != (api.Time{}) || e != api.ErrOver {
			t.Error(i, got, e)
		}
	}
}

func TestApplyWrong(t *testing.T) {
	for _, s := range wrong() {
		for depth := range api.MaxDepth + 1 {
			if got, e := Apply(s, api.Time{Epoch: 1, Depth: depth}); got != (api.Time{}) || e != api.ErrArg {
				t.Error(s, got, e)
			}
		}
		if got, e := Apply(s, api.Time{Epoch: 1, Depth: s.From}); got != (api.Time{}) || e != api.ErrArg {
			t.Error(s, got, e)
		}
	}
	for i, x := range []struct {
		s api.Summary
		t api.Time
	}{
		{Same(0), ts.At(1, 0)},
		{Same(1), ts.At(1)},
		{Enter(1), ts.At(1, 0, 0)},
		{Leave(3), ts.At(1, 0, 0)},
		{Same(0), ts.At(-1)},
		{Same(0), ts.At(1<<20 + 1)},
		{Same(1), ts.At(1, -1)},
		{Same(1), ts.At(1, 1001)},
		{Leave(1), ts.At(1, 1001)},
		{Same(0), api.Time{Epoch: 1, L: [3]int{1}}},
		{Same(2), api.Time{Epoch: 1, Depth: 2, L: [3]int{1, 1, 1}}},
		{Same(0), api.Time{Depth: 4}},
		{Same(0), api.Time{Depth: -1}},
		// what is wrong is told ahead of what goes over
		{raw(0, 0, 0, 1<<20), ts.At(1<<20, 1)},
		{raw(0, 0, 0, 1<<20), ts.At(math.MaxInt)},
		{Feed(1), ts.At(1, math.MaxInt)},
	} {
		if got, e := Apply(x.s, x.t); got != (api.Time{}) || e != api.ErrArg {
			t.Error(i, got, e)
		}
	}
}

func TestThen(t *testing.T) {
	for i, x := range []struct {
		s, r, want api.Summary
	}{
		{Enter(0), Feed(1), raw(0, 1, 0, 0, 1)},
		{Feed(1), Leave(1), raw(1, 0, 0, 0)},
		{Same(0), Same(0), raw(0, 0, 0, 0)},
		{Same(3), Same(3), raw(3, 3, 3, 0)},
		{Enter(0), Leave(1), raw(0, 0, 0, 0)},
		{Leave(1), Enter(0), raw(1, 1, 0, 0)},
		{Leave(3), Enter(2), raw(3, 3, 2, 0)},
		{Enter(2), Feed(3), raw(2, 3, 2, 0, 0, 0, 1)},
		{Feed(3), Feed(3), raw(3, 3, 3, 0, 0, 0, 2)},
		{raw(0, 0, 0, 3), raw(0, 0, 0, 4), raw(0, 0, 0, 7)},
		{raw(0, 0, 0, 1<<19), raw(0, 0, 0, 1<<19), raw(0, 0, 0, 1<<20)},
		{raw(1, 1, 1, 0, 400), raw(1, 1, 1, 0, 600), raw(1, 1, 1, 0, 1000)},
		{raw(1, 1, 0, 0, 400), raw(1, 1, 1, 0, 600), raw(1, 1, 0, 0, 1000)},
		{raw(1, 1, 1, 0, 1000), raw(1, 1, 0, 0, 1000), raw(1, 1, 0, 0, 1000)},
		{raw(1, 1, 1, 0, 1000), raw(1, 0, 0, 0), raw(1, 0, 0, 0)},
		{raw(3, 3, 3, 1, 1, 2, 3), raw(3, 3, 1, 2, 4, 5, 6), raw(3, 3, 1, 3, 5, 5, 6)},
		{raw(3, 3, 1, 1, 1, 2, 3), raw(3, 3, 3, 2, 4, 5, 6), raw(3, 3, 1, 3, 5, 7, 9)},
		{raw(3, 3, 1, 1, 1, 2, 3), raw(3, 3, 2, 2, 4, 5, 6), raw(3, 3, 1, 3, 5, 7, 6)},
		{raw(3, 3, 3, 1, 1, 2, 3), raw(3, 3, 0, 2, 4, 5, 6), raw(3, 3, 0, 3, 4, 5, 6)},
		{raw(1, 3, 1, 1, 1, 2, 3), raw(3, 2, 2, 2, 4, 5), raw(1, 2, 1, 3, 5, 7)},
		{raw(3, 1, 1, 1, 1), raw(1, 3, 1, 2, 4, 5, 6), raw(3, 3, 1, 3, 5, 5, 6)},
	} {
		if got, e := Then(x.s, x.r); got != x.want || e != api.OK {
			t.Error(i, got, e)
		}
	}
}

func TestThenOver(t *testing.T) {
	for i, x := range [][2]api.Summary{
		{raw(0, 0, 0, 1<<20), raw(0, 0, 0, 1)},
		{raw(0, 0, 0, 1), raw(0, 0, 0, 1<<20)},
		{raw(0, 0, 0, 1<<20), raw(0, 0, 0, 1<<20)},
		{raw(1, 1, 1, 0, 1000), Feed(1)},
		{raw(1, 1, 0, 0, 1000), Feed(1)},
		{Feed(2), raw(2, 2, 2, 0, 0, 1000)},
		{Feed(3), raw(3, 3, 3, 0, 0, 0, 1000)},
		{raw(3, 3, 3, 0, 1000, 1000, 1000), raw(3, 3, 1, 0, 1000, 0, 0)},
	} {
		if got, e := Then(x[0], x[1]); got != (api.Summary{}) || e != api.ErrOver {
			t.Error(i, got, e)
		}
	}
}

func TestThenWrong(t *testing.T) {
	for _, s := range wrong() {
		for depth := range api.MaxDepth + 1 {
			if got, e := Then(s, Same(depth)); got != (api.Summary{}) || e != api.ErrArg {
				t.Error("first", s, got, e)
			}
			if got, e := Then(Same(depth), s); got != (api.Summary{}) || e != api.ErrArg {
				t.Error("second", s, got, e)
			}
		}
		for _, r := range wrong() {
			if got, e := Then(s, r); got != (api.Summary{}) || e != api.ErrArg {
				t.Error("both", s, r, got, e)
			}
		}
	}
	for i, x := range [][2]api.Summary{
		{Enter(0), Enter(0)},
		{Enter(0), Same(0)},
		{Leave(1), Feed(1)},
		{Same(2), Same(3)},
		{Same(3), Same(2)},
		// what is wrong is told ahead of what goes over
		{raw(0, 0, 0, 1<<20), raw(1, 1, 1, 1<<20)},
		{raw(0, 0, 0, 1<<20), raw(0, 0, 0, 1<<20+1)},
	} {
		if got, e := Then(x[0], x[1]); got != (api.Summary{}) || e != api.ErrArg {
			t.Error(i, got, e)
		}
	}
}

// A loop that is left and entered again begins anew, with the rounds of the outer one alone.
func TestLoopLeftAndEntered(t *testing.T) {
	inner := path(t, Feed(2), Feed(2), Leave(2), Enter(1))
	if inner != raw(2, 2, 1, 0) {
		t.Error(inner)
	}
	again := path(t, Feed(2), Leave(2), Feed(1), Enter(1), Feed(2))
	if again != raw(2, 2, 1, 0, 1, 1) {
		t.Error(again)
	}
	if got, e := Apply(again, ts.At(3, 4, 999)); got != ts.At(3, 5, 1) || e != api.OK {
		t.Error(got, e)
	}
	outside := path(t, Feed(2), Leave(2), Leave(1), Enter(0), Enter(1))
	if outside != raw(2, 2, 0, 0) {
		t.Error(outside)
	}
	if got, e := Apply(outside, ts.At(3, 4, 5)); got != ts.At(3, 0, 0) || e != api.OK {
		t.Error(got, e)
	}
}

// P2.3

func TestLessEq(t *testing.T) {
	for i, x := range []struct {
		s, r        api.Summary
		there, back bool
	}{
		{Same(0), Same(0), true, true},
		{Same(3), Same(3), true, true},
		{Same(0), Same(1), false, false},
		{Same(1), Enter(1), false, false},
		{Same(1), Leave(1), false, false},
		{Enter(1), Same(2), false, false},
		{Leave(2), Same(1), false, false},
		{Same(1), Feed(1), true, false},
		{Same(3), Feed(3), true, false},
		{raw(0, 0, 0, 4), raw(0, 0, 0, 5), true, false},
		{raw(0, 0, 0, 0), raw(0, 0, 0, 1<<20), true, false},
		{raw(1, 1, 1, 4, 1), raw(1, 1, 1, 5, 0), false, false},
		{raw(1, 1, 1, 0, 0), raw(1, 1, 1, 0, 1000), true, false},
		{raw(1, 1, 0, 0, 0), raw(1, 1, 0, 0, 1000), true, false},
		{raw(2, 2, 2, 0, 1, 2), raw(2, 2, 2, 0, 2, 1), false, false},
		{raw(2, 2, 0, 0, 1, 2), raw(2, 2, 0, 0, 2, 1), false, false},
		{raw(0, 3, 0, 0, 1, 1, 1), raw(0, 3, 0, 0, 1, 1, 2), true, false},
		{raw(0, 3, 0, 0, 1, 1, 1), raw(0, 3, 0, 0, 1, 2, 1), true, false},
		{raw(0, 3, 0, 0, 1, 1, 1), raw(0, 3, 0, 0, 2, 1, 1), true, false},
		// the one keeps a counter, the other does not
		{raw(1, 1, 0, 0, 0), raw(1, 1, 1, 0, 0), true, false},
		{raw(1, 1, 0, 0, 1), raw(1, 1, 1, 0, 0), false, false},
		{raw(1, 1, 0, 0, 5), raw(1, 1, 1, 0, 5), true, false},
		{raw(1, 1, 0, 0, 5), raw(1, 1, 1, 0, 6), true, false},
		{raw(1, 1, 0, 0, 1000), raw(1, 1, 1, 0, 0), false, false},
		{raw(3, 3, 1, 0, 1, 1, 1), raw(3, 3, 2, 0, 1, 1, 1), true, false},
		{raw(3, 3, 2, 0, 1, 1, 1), raw(3, 3, 3, 0, 1, 1, 1), true, false},
		{raw(3, 3, 0, 0, 1, 1, 1), raw(3, 3, 3, 0, 1, 1, 1), true, false},
		{raw(3, 3, 1, 0, 2, 1, 1), raw(3, 3, 2, 0, 1, 1, 1), false, false},
		{raw(3, 3, 1, 0, 1, 1, 2), raw(3, 3, 2, 0, 1, 1, 1), false, false},
		{raw(3, 3, 1, 1, 1, 1, 1), raw(3, 3, 2, 0, 1, 1, 1), false, false},
	} {
		if LessEq(x.s, x.r) != x.there || LessEq(x.r, x.s) != x.back {
			t.Error(i, LessEq(x.s, x.r), LessEq(x.r, x.s))
		}
	}
}

func TestLessEqWrong(t *testing.T) {
	for _, s := range wrong() {
		if LessEq(s, s) {
			t.Error("itself", s)
		}
		for from := range api.MaxDepth + 1 {
			for to := range api.MaxDepth + 1 {
				for _, r := range few(from, to, 0, 1000) {
					if LessEq(s, r) || LessEq(r, s) {
						t.Error(s, r)
					}
				}
			}
		}
	}
}

func TestOrder(t *testing.T) {
	rising := []api.Summary{
		raw(math.MinInt, 9, 9, 9, 9, 9, 9),
		raw(-1, 0, 0, 0),
		raw(0, -1, 9, 9),
		raw(0, 0, -1, 9),
		raw(0, 0, 0, -1),
		raw(0, 0, 0, 0, -1),
		raw(0, 0, 0, 0),
		raw(0, 0, 0, 1),
		raw(0, 0, 0, 1<<20),
		raw(0, 0, 9, 0),
		raw(0, 1, 0, 0, 1000),
		raw(0, 1, 0, 1, 0),
		raw(0, 3, 0, 0, 0, 0, 0),
		raw(0, 3, 0, 0, 0, 0, 1),
		raw(0, 3, 0, 0, 0, 1, 0),
		raw(0, 3, 0, 0, 1, 0, 0),
		raw(0, 3, 0, 1, 0, 0, 0),
		raw(1, 0, 0, 0),
		raw(1, 1, 0, 1<<20, 1000),
		raw(1, 1, 1, 0, 0),
		raw(1, 1, 1, 0, 1),
		raw(1, 2, 0, 0),
		raw(2, 2, 1, 0, 1),
		raw(2, 2, 2, 0),
		raw(3, 0, 0, 0),
		raw(3, 3, 3, 1<<20, 1000, 1000, 1000),
		raw(4, 0, 0, 0),
		raw(math.MaxInt, math.MinInt, 0, 0),
		raw(math.MaxInt, math.MaxInt, math.MinInt, 0),
		raw(math.MaxInt, math.MaxInt, math.MaxInt, math.MaxInt, math.MaxInt, math.MaxInt, math.MaxInt),
	}
	for i, s := range rising {
		for j, r := range rising {
			want := 0
			if i < j {
				want = -1
			} else if i > j {
				want = 1
			}
			if Order(s, r) != want {
				t.Error(s, r, Order(s, r), want)
			}
		}
	}
}

// P2.4

// chained holds Then against one Apply behind the other. Where the first goes over, a counter that the second does not keep may hide it.
func chained(t *testing.T, s, r api.Summary, times []api.Time) {
	t.Helper()
	both, over := Then(s, r)
	if over != api.OK && over != api.ErrOver {
		t.Fatal(s, r, over)
	}
	for _, x := range times {
		first, e := Apply(s, x)
		if e == api.ErrOver {
			continue
		}
		if e != api.OK {
			t.Fatal(s, x, e)
		}
		want, wantErr := Apply(r, first)
		if over != api.OK {
			if wantErr != api.ErrOver {
				t.Fatal("goes over together alone", s, r, x)
			}
			continue
		}
		if got, e := Apply(both, x); got != want || e != wantErr {
			t.Fatal(s, r, x, got, e, want, wantErr)
		}
	}
}

func TestApplyOfThen(t *testing.T) {
	for from := range api.MaxDepth + 1 {
		for mid := range api.MaxDepth + 1 {
			for to := range api.MaxDepth + 1 {
				for _, s := range few(from, mid, 0, 600) {
					for _, r := range few(mid, to, 1, 500) {
						chained(t, s, r, fewTimes(from, 0, 450))
					}
				}
			}
		}
	}
}

func TestApplyOfThenAtTheEnds(t *testing.T) {
	for _, s := range few(1, 1, 0, 1, 400, 999, 1000) {
		for _, r := range few(1, 1, 0, 1, 600, 1000) {
			chained(t, s, r, fewTimes(1, 0, 1, 500, 999, 1000))
		}
	}
	for _, n := range []int{0, 1, 1 << 19, 1<<20 - 1, 1 << 20} {
		for _, m := range []int{0, 1, 1 << 19, 1<<20 - 1, 1 << 20} {
			chained(t, raw(0, 0, 0, n), raw(0, 0, 0, m), fewTimes(0, 0, 1, 1<<19, 1<<20))
		}
	}
}

// lessOfEach holds what is less against what the summaries make of each time.
func lessOfEach(t *testing.T, s, r api.Summary, times []api.Time) {
	t.Helper()
	less := true
	for _, x := range times {
		a, e := Apply(s, x)
		b, f := Apply(r, x)
		if e != api.OK || f != api.OK {
			t.Fatal(s, r, x, e, f)
		}
		less = less && ts.LessEq(a, b)
	}
	if LessEq(s, r) != less {
		t.Error(s, r, LessEq(s, r), less)
	}
}

func TestLessOfEachTime(t *testing.T) {
	for from := range api.MaxDepth + 1 {
		for to := range api.MaxDepth + 1 {
			all := few(from, to, 0, 1)
			times := fewTimes(from, 0, 9) // 9 is above all that is added, so that a kept counter shows
			for _, s := range all {
				for _, r := range all {
					lessOfEach(t, s, r, times)
				}
			}
		}
	}
}

// Where the greater one's time may be, so may the lesser one's.
func TestLessGoesOverLater(t *testing.T) {
	all := few(1, 1, 0, 1, 999, 1000)
	for _, s := range all {
		for _, r := range all {
			if !LessEq(s, r) {
				continue
			}
			for _, x := range fewTimes(1, 0, 1, 999, 1000) {
				a, e := Apply(s, x)
				b, f := Apply(r, x)
				if f == api.OK && (e != api.OK || !ts.LessEq(a, b)) {
					t.Error(s, r, x, a, e, b)
				}
			}
		}
	}
}

func TestApplyOfGreaterTimes(t *testing.T) {
	for from := range api.MaxDepth + 1 {
		times := fewTimes(from, 0, 3)
		for to := range api.MaxDepth + 1 {
			for _, s := range few(from, to, 0, 1000-3) {
				for _, x := range times {
					for _, y := range times {
						a, e := Apply(s, x)
						b, f := Apply(s, y)
						if e != api.OK || f != api.OK {
							t.Fatal(s, x, y, e, f)
						}
						if ts.LessEq(x, y) && !ts.LessEq(a, b) {
							t.Error(s, x, y, a, b)
						}
					}
				}
			}
		}
	}
}

func TestPartialOrder(t *testing.T) {
	for _, x := range [][2]int{{0, 0}, {1, 1}, {2, 2}, {1, 2}, {2, 1}, {3, 1}} {
		all := few(x[0], x[1], 0, 1)
		for _, s := range all {
			if !LessEq(s, s) {
				t.Error("with itself", s)
			}
			for _, r := range all {
				if LessEq(s, r) && LessEq(r, s) && s != r {
					t.Error("both ways", s, r)
				}
				for _, q := range all {
					if LessEq(s, r) && LessEq(r, q) && !LessEq(s, q) {
						t.Error("by way of another", s, r, q)
					}
				}
			}
		}
	}
}
