package ts

import (
	"math"
	"slices"
	"testing"

	"meander/api"
)

// raw is a time as it is written, whether it may be or not.
func raw(epoch, depth int, l ...int) api.Time {
	t := api.Time{Epoch: epoch, Depth: depth}
	copy(t.L[:], l)
	return t
}

// noDepths are depths that no time has.
var noDepths = []int{-1, 4, 5, math.MinInt, math.MaxInt}

// few is every time of one depth whose numbers are below n.
func few(depth, n int) []api.Time {
	all := []api.Time{}
	for e := range n {
		all = append(all, raw(e, depth))
	}
	for i := range depth {
		wider := []api.Time{}
		for _, t := range all {
			for c := range n {
				t.L[i] = c
				wider = append(wider, t)
			}
		}
		all = wider
	}
	return all
}

// P1.1

func TestAt(t *testing.T) {
	for i, x := range []struct {
		got, want api.Time
	}{
		{At(0), raw(0, 0)},
		{At(7), raw(7, 0)},
		{At(1 << 20), raw(1<<20, 0)},
		{At(7, 1), raw(7, 1, 1)},
		{At(7, 0), raw(7, 1)},
		{At(7, 1, 2), raw(7, 2, 1, 2)},
		{At(7, 1, 2, 3), raw(7, 3, 1, 2, 3)},
		{At(7, 1000, 1000, 1000), raw(7, 3, 1000, 1000, 1000)},
		{At(7, 1, 2, 3, 4), raw(7, 3, 1, 2, 3)},
		{At(7, 1, 2, 3, 4, 5, 6), raw(7, 3, 1, 2, 3)},
		{At(7, []int{}...), raw(7, 0)},
		{At(-1, -2, 1001), raw(-1, 2, -2, 1001)},
		{At(math.MinInt, math.MaxInt), raw(math.MinInt, 1, math.MaxInt)},
	} {
		if x.got != x.want {
			t.Error(i, x.got, x.want)
		}
	}
}

func TestAtLeavesCounters(t *testing.T) {
	l := []int{1, 2, 3, 4}
	a := At(5, l[:2]...)
	if !slices.Equal(l, []int{1, 2, 3, 4}) {
		t.Error("counters changed:", l)
	}
	l[0] = 9
	if a != raw(5, 2, 1, 2) {
		t.Error("counters kept:", a)
	}
}

func TestMay(t *testing.T) {
	for i, x := range []struct {
		t   api.Time
		may bool
	}{
		{raw(0, 0), true},
		{raw(1<<20, 0), true},
		{raw(1<<20+1, 0), false},
		{raw(-1, 0), false},
		{raw(math.MaxInt, 0), false},
		{raw(math.MinInt, 0), false},
		{raw(1, 1, 0), true},
		{raw(1, 1, 1000), true},
		{raw(1, 1, 1001), false},
		{raw(1, 1, -1), false},
		{raw(1, 2, 1000, 1000), true},
		{raw(1, 2, 0, 1001), false},
		{raw(1, 2, 0, -1), false},
		{raw(1, 3), true},
		{raw(1<<20, 3, 1000, 1000, 1000), true},
		{raw(1<<20+1, 3, 1000, 1000, 1000), false},
		{raw(1, 3, 0, 0, 1001), false},
		{raw(1, 3, 0, 0, -1), false},
		{raw(1, 3, math.MinInt, 0, 0), false},
		{raw(1, 3, 0, math.MaxInt, 0), false},
		{raw(1, 0, 1), false},
		{raw(1, 0, 0, 1), false},
		{raw(1, 0, 0, 0, 1), false},
		{raw(1, 1, 1, 1), false},
		{raw(1, 1, 1, -1), false},
		{raw(1, 2, 1, 1, 1), false},
		{raw(1, 2, 1, 1, -1), false},
	} {
		if May(x.t) != x.may {
			t.Error(i, x.t)
		}
	}
	for _, d := range noDepths {
		if May(raw(1, d)) {
			t.Error("depth", d)
		}
	}
}

// P1.2

func TestLessEq(t *testing.T) {
	for i, x := range []struct {
		a, b     api.Time
		le, less bool
	}{
		{At(3, 1, 2), At(3, 1, 4), true, true},
		{At(3, 1, 2), At(4, 0, 2), false, false},
		{At(4, 0, 2), At(3, 1, 2), false, false},
		{At(3), At(3), true, false},
		{At(3), At(4), true, true},
		{At(4), At(3), false, false},
		{At(0), At(1 << 20), true, true},
		{At(3, 1), At(3, 1), true, false},
		{At(3, 0), At(3, 1000), true, true},
		{At(3, 2), At(4, 1), false, false},
		{At(3, 1, 2, 3), At(3, 1, 2, 3), true, false},
		{At(3, 1, 2, 3), At(3, 1, 2, 4), true, true},
		{At(3, 1, 2, 4), At(3, 1, 2, 3), false, false},
		{At(3, 1, 3, 3), At(3, 1, 2, 4), false, false},
		{At(3), At(3, 0), false, false},
		{At(3, 0), At(3), false, false},
		{At(3, 0, 0), At(9, 9, 9, 9), false, false},
		{raw(3, 1, 1, 9, 9), raw(3, 1, 1, 0, 0), true, false},
		{raw(3, 0, 5), raw(4, 0, 1), true, true},
		{raw(-2, 1, -5), raw(-1, 1, -5), true, true},
		{raw(math.MinInt, 0), raw(math.MaxInt, 0), true, true},
	} {
		if LessEq(x.a, x.b) != x.le || Less(x.a, x.b) != x.less {
			t.Error(i, x.a, x.b)
		}
	}
	for _, d := range noDepths {
		if LessEq(raw(1, d), raw(1, d)) || Less(raw(1, d), raw(2, d)) || LessEq(raw(1, d), raw(1, 0)) || LessEq(raw(1, 3), raw(1, d)) {
			t.Error("depth", d)
		}
	}
}

func TestJoinMeet(t *testing.T) {
	for i, x := range []struct {
		a, b, join, meet api.Time
	}{
		{At(3, 1, 5), At(4, 0, 2), At(4, 1, 5), At(3, 0, 2)},
		{At(3), At(4), At(4), At(3)},
		{At(0), At(1 << 20), At(1 << 20), At(0)},
		{At(3, 7), At(3, 7), At(3, 7), At(3, 7)},
		{At(9, 0), At(2, 1000), At(9, 1000), At(2, 0)},
		{At(1, 2, 3, 4), At(4, 3, 2, 1), At(4, 3, 3, 4), At(1, 2, 2, 1)},
		{raw(1, 0, 7, 8, 9), raw(2, 0, 9, 8, 7), At(2), At(1)},
		{raw(1, 1, 7, 8, 9), raw(2, 1, 6, 8, 7), At(2, 7), At(1, 6)},
		{raw(1, 2, 7, 8, 9), raw(2, 2, 6, 9, 9), At(2, 7, 9), At(1, 6, 8)},
		{raw(-1, 1, -2), raw(-3, 1, -1), At(-1, -1), At(-3, -2)},
	} {
		for _, y := range [][2]api.Time{{x.a, x.b}, {x.b, x.a}} {
			j, e := Join(y[0], y[1])
			m, f := Meet(y[0], y[1])
			if j != x.join || m != x.meet || e != api.OK || f != api.OK {
				t.Error(i, j, e, m, f)
			}
		}
	}
}

func TestJoinMeetWrong(t *testing.T) {
	wrong := [][2]api.Time{
		{At(3), At(3, 1)},
		{At(3, 1), At(3)},
		{At(3, 1, 2), At(3, 1)},
		{At(3, 1, 2), At(3, 1, 2, 3)},
	}
	for _, d := range noDepths {
		wrong = append(wrong,
			[2]api.Time{raw(1, d, 1, 2, 3), raw(1, d, 1, 2, 3)},
			[2]api.Time{raw(1, d, 1, 2, 3), raw(1, 3, 1, 2, 3)},
			[2]api.Time{raw(1, 0), raw(1, d)})
	}
	for i, x := range wrong {
		if j, e := Join(x[0], x[1]); e != api.ErrArg || j != (api.Time{}) {
			t.Error("join", i, j, e)
		}
		if m, e := Meet(x[0], x[1]); e != api.ErrArg || m != (api.Time{}) {
			t.Error("meet", i, m, e)
		}
	}
}

// P1.3

func TestOrder(t *testing.T) {
	rising := []api.Time{
		raw(9, math.MinInt),
		raw(9, -1, 9, 9, 9),
		raw(-1, 0),
		raw(0, 0),
		raw(0, 0, 0, 0, 1),
		raw(0, 0, 0, 1, 0),
		raw(0, 0, 1, 0, 0),
		raw(9, 0),
		raw(1<<20, 0),
		raw(math.MaxInt, 0),
		raw(math.MinInt, 1),
		raw(0, 1, -1),
		raw(0, 1, 0),
		raw(0, 1, 1000),
		raw(1, 1, 0),
		raw(0, 2, 0, 9),
		raw(0, 2, 1, 0),
		raw(0, 3, 0, 0, 9),
		raw(0, 3, 0, 1, 0),
		raw(0, 3, 1, 0, 0),
		raw(1, 3, 0, 0, 0),
		raw(0, 4),
		raw(0, math.MaxInt),
	}
	for i, a := range rising {
		for j, b := range rising {
			want := 0
			if i < j {
				want = -1
			} else if i > j {
				want = 1
			}
			if Order(a, b) != want {
				t.Error(a, b, Order(a, b), want)
			}
		}
	}
}

func TestSort(t *testing.T) {
	for i, x := range []struct {
		in, want []api.Time
	}{
		{nil, nil},
		{[]api.Time{}, nil},
		{[]api.Time{At(3)}, []api.Time{At(3)}},
		{[]api.Time{At(4, 0, 2), At(9), At(3, 1, 5), At(2), At(3, 1, 5)}, []api.Time{At(2), At(9), At(3, 1, 5), At(3, 1, 5), At(4, 0, 2)}},
		{[]api.Time{At(1, 1000), At(1, 0), At(0, 1000), At(1 << 20), At(0)}, []api.Time{At(0), At(1 << 20), At(0, 1000), At(1, 0), At(1, 1000)}},
		{[]api.Time{raw(1, 4), raw(1, -1), At(1), raw(1, 4)}, []api.Time{raw(1, -1), At(1), raw(1, 4), raw(1, 4)}},
	} {
		if got := Sort(x.in); !slices.Equal(got, x.want) {
			t.Error(i, got)
		}
	}
}

// A long list takes another way through a sort than a short one.
func TestSortLong(t *testing.T) {
	want := few(2, 9)
	l := []api.Time{}
	for i := range want {
		l = append(l, want[i*100%len(want)], want[i])
	}
	got := Sort(l)
	if len(got) != 2*len(want) {
		t.Fatal(len(got))
	}
	for i, x := range got {
		if x != want[i/2] {
			t.Fatal(i, x)
		}
	}
}

func TestSortLeavesList(t *testing.T) {
	for _, was := range [][]api.Time{
		{At(4), At(2), At(3), At(1), At(0)},
		{At(1), At(2), At(3), At(0), At(0)}, // in order already: there is nothing to move
	} {
		whole := slices.Clone(was)
		got := Sort(whole[:3])
		if !slices.Equal(whole, was) {
			t.Error("list changed:", whole)
		}
		want := slices.Clone(got)
		for i := range whole {
			whole[i] = At(9)
		}
		if !slices.Equal(got, want) {
			t.Error("list kept:", got)
		}
		for i := range got {
			got[i] = At(6)
		}
		_ = append(got, At(6), At(6))
		for _, x := range whole {
			if x != At(9) {
				t.Error("answer shared:", whole)
			}
		}
	}
}

// P1.4

func TestPartialOrder(t *testing.T) {
	for depth := range api.MaxDepth + 1 {
		all := few(depth, 2)
		for _, a := range all {
			if !May(a) || !LessEq(a, a) || Less(a, a) {
				t.Error("with itself", a)
			}
			for _, b := range all {
				if LessEq(a, b) && LessEq(b, a) && a != b {
					t.Error("both ways", a, b)
				}
				if Less(a, b) != (LessEq(a, b) && a != b) {
					t.Error("less", a, b)
				}
				if Less(a, b) && Order(a, b) != -1 {
					t.Error("less, but not ahead", a, b)
				}
				for _, c := range all {
					if LessEq(a, b) && LessEq(b, c) && !LessEq(a, c) {
						t.Error("by way of another", a, b, c)
					}
				}
			}
		}
	}
}

func TestLeastAboveGreatestBelow(t *testing.T) {
	for depth := range api.MaxDepth + 1 {
		all := few(depth, 2)
		if depth < 2 {
			all = few(depth, 5)
		}
		for _, a := range all {
			for _, b := range all {
				j, e := Join(a, b)
				m, f := Meet(a, b)
				if e != api.OK || f != api.OK || !May(j) || !May(m) {
					t.Fatal(a, b, j, e, m, f)
				}
				if !LessEq(a, j) || !LessEq(b, j) || !LessEq(m, a) || !LessEq(m, b) {
					t.Error("not above or below", a, b, j, m)
				}
				for _, c := range all {
					if LessEq(a, c) && LessEq(b, c) != LessEq(j, c) {
						t.Error("not the least above", a, b, j, c)
					}
					if LessEq(c, a) && LessEq(c, b) != LessEq(c, m) {
						t.Error("not the greatest below", a, b, m, c)
					}
				}
			}
		}
	}
}
