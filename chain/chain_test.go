package chain

import (
	"math"
	"slices"
	"testing"

	"meander/api"
	"meander/summary"
	"meander/ts"
)

// raw is a time as it is written, whether it may be or not.
func raw(epoch, depth int, l ...int) api.Time {
	t := api.Time{Epoch: epoch, Depth: depth}
	copy(t.L[:], l)
	return t
}

// sum is a summary as it is written, whether it may be or not.
func sum(from, to, keep, epochs int, add ...int) api.Summary {
	s := api.Summary{From: from, To: to, Keep: keep, Epochs: epochs}
	copy(s.Add[:], add)
	return s
}

// wrongTimes are times that may not be.
func wrongTimes() []api.Time {
	return []api.Time{
		ts.At(-1),
		ts.At(math.MinInt),
		ts.At(1<<20 + 1),
		ts.At(math.MaxInt),
		ts.At(1, -1),
		ts.At(1, 1001),
		ts.At(1, 0, -1),
		ts.At(1, 0, 0, 1001),
		raw(1, -1),
		raw(1, 4),
		raw(1, math.MaxInt),
		raw(1, 0, 1),
		raw(1, 1, 0, 1),
		raw(1, 2, 0, 0, -1),
	}
}

// wrongSums are summaries that may not be.
func wrongSums() []api.Summary {
	return []api.Summary{
		sum(-1, 0, 0, 0),
		sum(0, -1, 0, 0),
		sum(4, 1, 0, 0),
		sum(1, 4, 0, 0),
		sum(math.MaxInt, math.MinInt, 0, 0),
		sum(1, 1, -1, 0),
		sum(1, 1, 2, 0),
		sum(1, 2, 2, 0),
		sum(1, 1, 1, -1),
		sum(1, 1, 1, 1<<20+1),
		sum(1, 1, 1, 0, -1),
		sum(1, 1, 0, 0, 1001),
		sum(1, 1, 1, 0, 0, 1),
		sum(0, 0, 0, 0, 0, 0, -1),
	}
}

// someTimes are times of several depths, comparable and not, some that may not be among them.
func someTimes() []api.Time {
	return []api.Time{
		ts.At(0), ts.At(2), ts.At(1, 0), ts.At(0, 1), ts.At(1, 1), ts.At(0, 1, 0), ts.At(1, 0, 1), ts.At(0, 0, 0, 1),
		ts.At(1<<20, 1000), ts.At(1, 1001), raw(0, 4), raw(0, 1, 0, 1),
	}
}

// someSums are summaries of several From and To, comparable and not, some that may not be among them.
func someSums() []api.Summary {
	return []api.Summary{
		sum(0, 0, 0, 1), sum(0, 1, 0, 0, 1), sum(1, 0, 0, 0), sum(1, 1, 0, 0, 0), sum(1, 1, 0, 0, 2), sum(1, 1, 1, 0, 0), sum(1, 1, 1, 0, 1), sum(1, 1, 1, 1, 0),
		sum(1, 1, 0, 1<<20, 1000), sum(1, 1, 2, 0), sum(1, 1, 0, 0, -1), sum(4, 0, 0, 0),
	}
}

// triples hands each row of up to three of l to see.
func triples[T any](l []T, see func(row []T)) {
	see(nil)
	for _, a := range l {
		see([]T{a})
		for _, b := range l {
			see([]T{a, b})
			for _, c := range l {
				see([]T{a, b, c})
			}
		}
	}
}

// lowest is P3.1 word by word: of each that may be, whether another one that may be is less.
func lowest[T comparable](l []T, may func(T) bool, lessEq func(a, b T) bool, order func(a, b T) int) []T {
	low := []T{}
	for _, x := range l {
		under := slices.ContainsFunc(l, func(y T) bool { return may(y) && lessEq(y, x) && !lessEq(x, y) })
		if may(x) && !under && !slices.Contains(low, x) {
			low = append(low, x)
		}
	}
	slices.SortFunc(low, order)
	return low
}

func lowestTimes(l []api.Time) []api.Time { return lowest(l, ts.May, ts.LessEq, ts.Order) }

func lowestSums(l []api.Summary) []api.Summary {
	return lowest(l, summary.May, summary.LessEq, summary.Order)
}

// P3.1

func TestTimes(t *testing.T) {
	for i, x := range []struct{ in, want []api.Time }{
		{[]api.Time{ts.At(2, 1), ts.At(1, 3), ts.At(3, 1), ts.At(2, 1)}, []api.Time{ts.At(1, 3), ts.At(2, 1)}},
		{nil, nil},
		{[]api.Time{}, nil},
		{[]api.Time{ts.At(7)}, []api.Time{ts.At(7)}},
		{[]api.Time{{}}, []api.Time{{}}},
		{[]api.Time{ts.At(7, 1), ts.At(7, 1), ts.At(7, 1)}, []api.Time{ts.At(7, 1)}},
		{[]api.Time{ts.At(9), ts.At(3), ts.At(5)}, []api.Time{ts.At(3)}},
		{[]api.Time{ts.At(1 << 20), ts.At(0)}, []api.Time{ts.At(0)}},
		// none is at most another one
		{[]api.Time{ts.At(3, 0), ts.At(0, 3), ts.At(2, 1), ts.At(1, 2)}, []api.Time{ts.At(0, 3), ts.At(1, 2), ts.At(2, 1), ts.At(3, 0)}},
		{[]api.Time{ts.At(0, 0, 0, 1), ts.At(0, 0, 1, 0), ts.At(0, 1, 0, 0), ts.At(1, 0, 0, 0)}, []api.Time{ts.At(0, 0, 0, 1), ts.At(0, 0, 1, 0), ts.At(0, 1, 0, 0), ts.At(1, 0, 0, 0)}},
		// several depths
		{[]api.Time{ts.At(0, 0, 0, 0), ts.At(1, 0, 0), ts.At(2, 0), ts.At(3)}, []api.Time{ts.At(3), ts.At(2, 0), ts.At(1, 0, 0), ts.At(0, 0, 0, 0)}},
		{[]api.Time{ts.At(4), ts.At(2, 5), ts.At(3), ts.At(2, 4), ts.At(3, 3), ts.At(2, 6)}, []api.Time{ts.At(3), ts.At(2, 4), ts.At(3, 3)}},
		// one that is at most all others, wherever it stands
		{[]api.Time{ts.At(0, 0), ts.At(1, 3), ts.At(2, 1)}, []api.Time{ts.At(0, 0)}},
		{[]api.Time{ts.At(1, 3), ts.At(0, 0), ts.At(2, 1)}, []api.Time{ts.At(0, 0)}},
		{[]api.Time{ts.At(1, 3), ts.At(2, 1), ts.At(0, 0)}, []api.Time{ts.At(0, 0)}},
		{[]api.Time{ts.At(1, 3), ts.At(2, 1), ts.At(1, 1)}, []api.Time{ts.At(1, 1)}},
		// one that is at most one other alone
		{[]api.Time{ts.At(2, 1, 0), ts.At(1, 0, 3), ts.At(1, 1, 0)}, []api.Time{ts.At(1, 0, 3), ts.At(1, 1, 0)}},
		// one that may not be hides none
		{[]api.Time{ts.At(-1), ts.At(5)}, []api.Time{ts.At(5)}},
		{[]api.Time{ts.At(5, 5), ts.At(5, -1), ts.At(-1, 5), raw(0, 1, 0, 1)}, []api.Time{ts.At(5, 5)}},
		{[]api.Time{ts.At(1<<20 + 1), ts.At(1 << 20), ts.At(0, 1001), ts.At(0, 1000)}, []api.Time{ts.At(1 << 20), ts.At(0, 1000)}},
		{wrongTimes(), nil},
	} {
		if got := Times(x.in); !slices.Equal(got, x.want) {
			t.Error(i, got)
		}
	}
}

func TestSums(t *testing.T) {
	kept, fixed, none := sum(1, 1, 1, 0, 1), sum(1, 1, 0, 0, 3), sum(1, 1, 0, 0, 0)
	for i, x := range []struct{ in, want []api.Summary }{
		{nil, nil},
		{[]api.Summary{}, nil},
		{[]api.Summary{{}}, []api.Summary{{}}},
		{[]api.Summary{summary.Feed(2)}, []api.Summary{summary.Feed(2)}},
		{[]api.Summary{summary.Feed(2), summary.Feed(2), summary.Feed(2)}, []api.Summary{summary.Feed(2)}},
		{[]api.Summary{summary.Feed(1), summary.Same(1)}, []api.Summary{summary.Same(1)}},
		{[]api.Summary{sum(0, 0, 0, 5), sum(0, 0, 0, 3), sum(0, 0, 0, 1<<20)}, []api.Summary{sum(0, 0, 0, 3)}},
		// the one keeps a counter, the other does not
		{[]api.Summary{kept, fixed, kept}, []api.Summary{fixed, kept}},
		{[]api.Summary{kept, fixed, none}, []api.Summary{none}},
		{[]api.Summary{sum(1, 1, 1, 0, 3), fixed}, []api.Summary{fixed}},
		{[]api.Summary{sum(1, 1, 1, 0, 2), fixed}, []api.Summary{fixed, sum(1, 1, 1, 0, 2)}},
		{[]api.Summary{sum(3, 3, 3, 0), sum(3, 3, 1, 0, 0, 0, 1), sum(3, 3, 2, 0)}, []api.Summary{sum(3, 3, 1, 0, 0, 0, 1), sum(3, 3, 2, 0)}},
		{[]api.Summary{sum(3, 3, 3, 0), sum(3, 3, 1, 0), sum(3, 3, 2, 0)}, []api.Summary{sum(3, 3, 1, 0)}},
		// several From and To
		{[]api.Summary{summary.Leave(1), summary.Same(2), summary.Enter(0), summary.Same(0), summary.Same(1)}, []api.Summary{summary.Same(0), summary.Enter(0), summary.Leave(1), summary.Same(1), summary.Same(2)}},
		{[]api.Summary{sum(0, 1, 0, 0, 2), sum(1, 1, 0, 0, 1), sum(0, 1, 0, 0, 1), sum(1, 1, 0, 0, 0)}, []api.Summary{sum(0, 1, 0, 0, 1), sum(1, 1, 0, 0, 0)}},
		{[]api.Summary{sum(2, 2, 2, 1, 0, 0), sum(2, 2, 2, 0, 1, 0), sum(2, 2, 2, 0, 0, 1)}, []api.Summary{sum(2, 2, 2, 0, 0, 1), sum(2, 2, 2, 0, 1, 0), sum(2, 2, 2, 1, 0, 0)}},
		// one that may not be hides none
		{[]api.Summary{sum(1, 1, 0, 0, -1), fixed, sum(1, 1, 0, -1, 0), sum(1, 1, -1, 0, 0)}, []api.Summary{fixed}},
		{[]api.Summary{sum(1, 1, 1, 1<<20, 1000), sum(1, 1, 1, 1<<20+1, 1000), sum(1, 1, 1, 1<<20, 1001)}, []api.Summary{sum(1, 1, 1, 1<<20, 1000)}},
		{wrongSums(), nil},
	} {
		if got := Sums(x.in); !slices.Equal(got, x.want) {
			t.Error(i, got)
		}
	}
}

func TestLowestOfAll(t *testing.T) {
	triples(someTimes(), func(row []api.Time) {
		if got, want := Times(row), lowestTimes(row); !slices.Equal(got, want) {
			t.Error(row, got, want)
		}
	})
	triples(someSums(), func(row []api.Summary) {
		if got, want := Sums(row), lowestSums(row); !slices.Equal(got, want) {
			t.Error(row, got, want)
		}
	})
}

// A long list takes another way through a sort than a short one; here it comes from the highest to the lowest, and each time twice.
func TestTimesLong(t *testing.T) {
	l, want := []api.Time{}, []api.Time{}
	for e := range 500 {
		want = append(want, ts.At(e, 499-e))
	}
	for _, x := range slices.Backward(want) {
		deeper := ts.At(x.Epoch+1, x.L[0], 0)
		l = append(l, ts.At(x.Epoch, x.L[0]+1), x, deeper, x, ts.At(x.Epoch+7, x.L[0]))
	}
	for e := range 500 {
		want = append(want, ts.At(e+1, 499-e, 0))
	}
	if got := Times(l); !slices.Equal(got, want) {
		t.Error(len(got), len(want))
	}
}

// P3.2

func TestCovers(t *testing.T) {
	l := []api.Time{ts.At(2, 1), ts.At(1, 3), ts.At(5)}
	for i, x := range []struct {
		l    []api.Time
		t    api.Time
		want bool
	}{
		{nil, ts.At(0), false},
		{[]api.Time{}, ts.At(1<<20, 1000), false},
		{l, ts.At(2, 1), true},
		{l, ts.At(1, 3), true},
		{l, ts.At(1, 4), true},
		{l, ts.At(2, 2), true},
		{l, ts.At(1<<20, 1000), true},
		{l, ts.At(1, 2), false},
		{l, ts.At(2, 0), false},
		{l, ts.At(0, 1000), false},
		{l, ts.At(0, 0), false},
		{l, ts.At(4), false},
		{l, ts.At(5), true},
		{l, ts.At(6), true},
		{l, ts.At(9, 9, 9), false},
		{l, ts.At(9, 9, 9, 9), false},
		// LessEq alone is asked, whether the times may be or not
		{l, ts.At(1<<20 + 1), true},
		{l, ts.At(1, 1001), true},
		{l, ts.At(-1, 0), false},
		{[]api.Time{ts.At(-1)}, ts.At(0), true},
		{[]api.Time{ts.At(-1)}, ts.At(-2), false},
		{[]api.Time{raw(1, 1, 1, 9)}, ts.At(1, 1), true},
		{[]api.Time{raw(1, 4)}, raw(1, 4), false},
		{[]api.Time{raw(1, -1)}, raw(2, -1), false},
	} {
		if Covers(x.l, x.t) != x.want {
			t.Error(i, x.l, x.t)
		}
	}
}

func TestCoversSum(t *testing.T) {
	l := []api.Summary{sum(1, 1, 1, 0, 1), sum(1, 1, 0, 0, 3), summary.Enter(0)}
	for i, x := range []struct {
		l    []api.Summary
		s    api.Summary
		want bool
	}{
		{nil, summary.Same(0), false},
		{[]api.Summary{}, summary.Same(1), false},
		{l, sum(1, 1, 1, 0, 1), true},
		{l, sum(1, 1, 1, 0, 0), false},
		{l, sum(1, 1, 1, 0, 2), true},
		{l, sum(1, 1, 1, 7, 1), true},
		{l, sum(1, 1, 0, 0, 3), true},
		{l, sum(1, 1, 0, 0, 1000), true},
		{l, sum(1, 1, 0, 1<<20, 3), true},
		{l, sum(1, 1, 0, 0, 2), false},
		{l, sum(1, 1, 0, 0, 0), false},
		{l, sum(0, 1, 0, 0, 0), true},
		{l, sum(0, 1, 0, 0, 9), true},
		{l, summary.Same(0), false},
		{l, summary.Leave(1), false},
		{l, summary.Enter(1), false},
		{l, summary.Same(2), false},
		// those that may not be are at most none
		{l, sum(1, 1, 1, 0, 1001), false},
		{l, sum(1, 1, 1, 1<<20+1, 1), false},
		{[]api.Summary{sum(1, 1, 1, -1, 0)}, summary.Same(1), false},
		{[]api.Summary{sum(1, 1, 0, 0, -1)}, summary.Same(1), false},
		{wrongSums(), summary.Same(0), false},
	} {
		if CoversSum(x.l, x.s) != x.want {
			t.Error(i, x.l, x.s)
		}
	}
	for _, s := range wrongSums() {
		if CoversSum(wrongSums(), s) {
			t.Error(s)
		}
	}
}

func TestAdd(t *testing.T) {
	l := []api.Time{ts.At(1, 3), ts.At(2, 1)}
	for i, x := range []struct {
		l     []api.Time
		t     api.Time
		want  []api.Time
		fresh bool
	}{
		{l, ts.At(1, 0), []api.Time{ts.At(1, 0)}, true},
		{nil, ts.At(7), []api.Time{ts.At(7)}, true},
		{[]api.Time{}, api.Time{}, []api.Time{{}}, true},
		{l, ts.At(1, 3), l, false},
		{l, ts.At(2, 1), l, false},
		{l, ts.At(1, 4), l, false},
		{l, ts.At(1<<20, 1000), l, false},
		{l, ts.At(1, 2), []api.Time{ts.At(1, 2), ts.At(2, 1)}, true},
		{l, ts.At(2, 0), []api.Time{ts.At(1, 3), ts.At(2, 0)}, true},
		{l, ts.At(0, 9), []api.Time{ts.At(0, 9), ts.At(1, 3), ts.At(2, 1)}, true},
		{l, ts.At(9, 0), []api.Time{ts.At(1, 3), ts.At(2, 1), ts.At(9, 0)}, true},
		{l, ts.At(0, 0), []api.Time{ts.At(0, 0)}, true},
		{l, ts.At(9), []api.Time{ts.At(9), ts.At(1, 3), ts.At(2, 1)}, true},
		{l, ts.At(0, 0, 0), []api.Time{ts.At(1, 3), ts.At(2, 1), ts.At(0, 0, 0)}, true},
		// the row need not be a chain
		{[]api.Time{ts.At(2, 1), ts.At(3, 1), ts.At(1, 3), ts.At(2, 1)}, ts.At(4, 0), []api.Time{ts.At(1, 3), ts.At(2, 1), ts.At(4, 0)}, true},
		{[]api.Time{ts.At(5), ts.At(3), ts.At(3)}, ts.At(4), []api.Time{ts.At(3)}, false},
		{[]api.Time{raw(1, 4), ts.At(3), ts.At(1, 1001)}, ts.At(2), []api.Time{ts.At(2)}, true},
		// one of the row that may not be is left out of the chain, yet it covers
		{[]api.Time{ts.At(-1)}, ts.At(4), []api.Time{ts.At(4)}, false},
	} {
		got, fresh := Add(x.l, x.t)
		if !slices.Equal(got, x.want) || fresh != x.fresh {
			t.Error(i, got, fresh)
		}
	}
	for _, x := range wrongTimes() {
		if got, fresh := Add(l, x); !slices.Equal(got, l) || fresh {
			t.Error(x, got, fresh)
		}
		if got, fresh := Add(nil, x); len(got) != 0 || fresh {
			t.Error(x, got, fresh)
		}
		if got, fresh := Add(wrongTimes(), x); len(got) != 0 || fresh {
			t.Error(x, got, fresh)
		}
	}
}

func TestAddSum(t *testing.T) {
	fixed, kept := sum(1, 1, 0, 0, 3), sum(1, 1, 1, 0, 1)
	l := []api.Summary{fixed, kept}
	for i, x := range []struct {
		l     []api.Summary
		s     api.Summary
		want  []api.Summary
		fresh bool
	}{
		{nil, summary.Same(2), []api.Summary{summary.Same(2)}, true},
		{[]api.Summary{}, api.Summary{}, []api.Summary{{}}, true},
		{l, fixed, l, false},
		{l, kept, l, false},
		{l, sum(1, 1, 1, 0, 2), l, false},
		{l, sum(1, 1, 0, 9, 3), l, false},
		{l, sum(1, 1, 0, 0, 0), []api.Summary{sum(1, 1, 0, 0, 0)}, true},
		{l, sum(1, 1, 0, 0, 1), []api.Summary{sum(1, 1, 0, 0, 1)}, true},
		{l, sum(1, 1, 0, 0, 2), []api.Summary{sum(1, 1, 0, 0, 2), kept}, true},
		{l, summary.Same(1), []api.Summary{fixed, summary.Same(1)}, true},
		{l, sum(1, 1, 1, 1, 0), []api.Summary{fixed, kept, sum(1, 1, 1, 1, 0)}, true},
		{l, summary.Enter(0), []api.Summary{summary.Enter(0), fixed, kept}, true},
		{l, summary.Leave(1), []api.Summary{summary.Leave(1), fixed, kept}, true},
		{l, summary.Same(2), []api.Summary{fixed, kept, summary.Same(2)}, true},
		// the row need not be a chain
		{[]api.Summary{kept, kept, sum(1, 1, 1, 0, 9), fixed}, summary.Same(0), []api.Summary{summary.Same(0), fixed, kept}, true},
		{[]api.Summary{sum(1, 1, 1, -1, 0), kept}, summary.Same(1), []api.Summary{summary.Same(1)}, true},
	} {
		got, fresh := AddSum(x.l, x.s)
		if !slices.Equal(got, x.want) || fresh != x.fresh {
			t.Error(i, got, fresh)
		}
	}
	for _, s := range wrongSums() {
		if got, fresh := AddSum(l, s); !slices.Equal(got, l) || fresh {
			t.Error(s, got, fresh)
		}
		if got, fresh := AddSum(nil, s); len(got) != 0 || fresh {
			t.Error(s, got, fresh)
		}
		if got, fresh := AddSum(wrongSums(), s); len(got) != 0 || fresh {
			t.Error(s, got, fresh)
		}
	}
}

func TestAddOfAll(t *testing.T) {
	triples(someTimes(), func(row []api.Time) {
		for _, x := range someTimes() {
			got, fresh := Add(row, x)
			if !slices.Equal(got, lowestTimes(append(row, x))) || fresh != (ts.May(x) && !Covers(row, x)) {
				t.Error(row, x, got, fresh)
			}
		}
	})
	triples(someSums(), func(row []api.Summary) {
		for _, x := range someSums() {
			got, fresh := AddSum(row, x)
			if !slices.Equal(got, lowestSums(append(row, x))) || fresh != (summary.May(x) && !CoversSum(row, x)) {
				t.Error(row, x, got, fresh)
			}
		}
	})
}

func TestSame(t *testing.T) {
	l := []api.Time{ts.At(1, 3), ts.At(2, 1)}
	for i, x := range []struct {
		a, b []api.Time
		want bool
	}{
		{nil, nil, true},
		{nil, []api.Time{}, true},
		{nil, []api.Time{{}}, false},
		{l, nil, false},
		{l, l, true},
		{l, []api.Time{ts.At(1, 3), ts.At(2, 1)}, true},
		{l, []api.Time{ts.At(2, 1), ts.At(1, 3)}, false},
		{l, l[:1], false},
		{l, l[1:], false},
		{l, []api.Time{ts.At(1, 3), ts.At(2, 1), ts.At(2, 1)}, false},
		{l, []api.Time{ts.At(1, 3), ts.At(2, 2)}, false},
		{l, []api.Time{ts.At(0, 3), ts.At(2, 1)}, false},
		{[]api.Time{ts.At(3)}, []api.Time{ts.At(3, 0)}, false},
		{[]api.Time{ts.At(3, 1, 2, 3)}, []api.Time{ts.At(3, 1, 2, 4)}, false},
		// rows are held against each other as they are, chains or not
		{[]api.Time{ts.At(2), ts.At(1), ts.At(1)}, []api.Time{ts.At(2), ts.At(1), ts.At(1)}, true},
		{[]api.Time{ts.At(2), ts.At(1)}, []api.Time{ts.At(1)}, false},
		{[]api.Time{raw(1, 4)}, []api.Time{raw(1, 4)}, true},
		{[]api.Time{raw(1, 4)}, []api.Time{raw(1, 5)}, false},
		{[]api.Time{raw(1, 0)}, []api.Time{raw(1, 0, 1)}, false},
	} {
		if Same(x.a, x.b) != x.want || Same(x.b, x.a) != x.want {
			t.Error(i, x.a, x.b)
		}
	}
}

// P3.3

// Where a row has times that may not be, its chain covers what the others do.
func TestChainOfChain(t *testing.T) {
	triples(someTimes(), func(row []api.Time) {
		low := Times(row)
		if !Same(Times(low), low) {
			t.Error(row, low)
		}
		may := slices.DeleteFunc(slices.Clone(row), func(x api.Time) bool { return !ts.May(x) })
		for _, x := range append(someTimes(), wrongTimes()...) {
			if Covers(low, x) != Covers(may, x) {
				t.Error("covers", row, low, x)
			}
		}
	})
	triples(someSums(), func(row []api.Summary) {
		low := Sums(row)
		if !slices.Equal(Sums(low), low) {
			t.Error(row, low)
		}
		for _, x := range append(someSums(), wrongSums()...) {
			if CoversSum(low, x) != CoversSum(row, x) {
				t.Error("covers", row, low, x)
			}
		}
	})
}

// In whatever order times come, the chain is the same.
func TestChainOneByOne(t *testing.T) {
	triples(someTimes(), func(row []api.Time) {
		var low []api.Time
		for _, x := range slices.Backward(row) {
			low, _ = Add(low, x)
		}
		if !Same(low, Times(row)) {
			t.Error(row, low)
		}
	})
	triples(someSums(), func(row []api.Summary) {
		var low []api.Summary
		for _, x := range slices.Backward(row) {
			low, _ = AddSum(low, x)
		}
		if !slices.Equal(low, Sums(row)) {
			t.Error(row, low)
		}
	})
}

// R7

// ownRow holds a call to R7: the row that is handed in, with room behind its end, stays as it was, and the answer shares nothing with it.
func ownRow[T comparable](t *testing.T, was []T, spare, other T, call func(l []T) []T) {
	t.Helper()
	whole := append(slices.Clone(was), spare, spare)
	given := slices.Clone(whole)
	got := call(whole[:len(was)])
	if !slices.Equal(whole, given) {
		t.Error("row changed:", whole)
	}
	want := slices.Clone(got)
	for i := range whole {
		whole[i] = other
	}
	if !slices.Equal(got, want) {
		t.Error("row kept:", got)
	}
	for i := range got[:cap(got)] {
		got[:cap(got)][i] = spare
	}
	for _, x := range whole {
		if x != other {
			t.Error("answer shared:", whole)
		}
	}
}

func TestRowsStay(t *testing.T) {
	for _, row := range [][]api.Time{
		{},
		{ts.At(1, 3)},
		{ts.At(1, 3), ts.At(2, 1)}, // a chain already: there is nothing to move
		{ts.At(2, 1), ts.At(1, 3), ts.At(3, 1), ts.At(2, 1)},
		{raw(1, 4), ts.At(4), ts.At(-1), ts.At(3)},
	} {
		ownRow(t, row, ts.At(0), ts.At(9), Times)
		for _, x := range []api.Time{ts.At(0, 0), ts.At(9, 9), ts.At(9, 0), ts.At(-1)} {
			ownRow(t, row, ts.At(0), ts.At(9), func(l []api.Time) []api.Time { got, _ := Add(l, x); return got })
			ownRow(t, row, ts.At(0), ts.At(9), func(l []api.Time) []api.Time { Covers(l, x); Same(l, l); return nil })
		}
	}
	for _, row := range [][]api.Summary{
		{},
		{summary.Feed(1)},
		{sum(1, 1, 0, 0, 3), sum(1, 1, 1, 0, 1)},
		{sum(1, 1, 1, 0, 1), sum(1, 1, 0, 0, 3), sum(1, 1, 1, 0, 1)},
		{sum(4, 0, 0, 0), summary.Feed(1), sum(1, 1, 1, -1), summary.Same(1)},
	} {
		ownRow(t, row, summary.Same(0), summary.Same(3), Sums)
		for _, x := range []api.Summary{sum(1, 1, 0, 0), sum(1, 1, 1, 9, 9), summary.Enter(0), sum(1, 1, 2, 0)} {
			ownRow(t, row, summary.Same(0), summary.Same(3), func(l []api.Summary) []api.Summary { got, _ := AddSum(l, x); return got })
			ownRow(t, row, summary.Same(0), summary.Same(3), func(l []api.Summary) []api.Summary { CoversSum(l, x); return nil })
		}
	}
}
