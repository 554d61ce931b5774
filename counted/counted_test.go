package counted

import (
	"fmt"
	"math"
	"slices"
	"testing"

	"meander/api"
	"meander/ts"
)

// row is times, written short.
type row = []api.Time

// step is one call of Add, and what it is to answer.
type step struct {
	t          api.Time
	n          int
	gone, come row
	e          api.Errno
}

// raw is a time as it is written, whether it may be or not.
func raw(epoch, depth int, l ...int) api.Time {
	t := api.Time{Epoch: epoch, Depth: depth}
	copy(t.L[:], l)
	return t
}

// wrongTimes are times that may not be.
func wrongTimes() row {
	return row{
		ts.At(-1),
		ts.At(math.MinInt),
		ts.At(1<<20 + 1),
		ts.At(math.MaxInt),
		ts.At(1, -1),
		ts.At(1, 1001),
		ts.At(1, 0, -1),
		ts.At(1, 0, 0, 1001),
		raw(1, -1),
		raw(1, 4),
		raw(1, math.MaxInt),
		raw(1, 0, 1),
		raw(1, 1, 0, 1),
		raw(1, 2, 0, 0, -1),
	}
}

// wrongNumbers are numbers that may not be added.
func wrongNumbers() []int {
	return []int{1<<30 + 1, -1<<30 - 1, 1 << 31, -1 << 31, math.MaxInt, math.MinInt}
}

// walk makes the calls of steps one behind the other.
func walk(t *testing.T, c *Counts, steps []step) {
	t.Helper()
	for i, x := range steps {
		gone, come, e := c.Add(x.t, x.n)
		if !slices.Equal(gone, x.gone) || !slices.Equal(come, x.come) || e != x.e {
			t.Error(i, x.t, x.n, "answers", gone, come, e)
		}
	}
}

// of is counts to which 1 of each time is added.
func of(t *testing.T, l ...api.Time) *Counts {
	t.Helper()
	c := New()
	for _, x := range l {
		add(t, c, x, 1)
	}
	return c
}

func add(t *testing.T, c *Counts, x api.Time, n int) {
	t.Helper()
	if _, _, e := c.Add(x, n); e != api.OK {
		t.Error(x, n, e)
	}
}

// tell is all that can be asked of counts, as text.
func tell(c *Counts) string {
	s := ""
	for _, x := range c.All() {
		s += fmt.Sprint(x, c.Count(x), " ")
	}
	return s + fmt.Sprint("frontier ", c.Frontier())
}

// full is counts with just as many times as may be, 0 to 399.
func full(t *testing.T) *Counts {
	t.Helper()
	c := New()
	for e := range 400 {
		add(t, c, ts.At(e), 1)
	}
	return c
}

// P4.1

func TestAddExample(t *testing.T) {
	walk(t, New(), []step{
		{t: ts.At(3), n: 1, come: row{ts.At(3)}},
		{t: ts.At(1), n: 1, gone: row{ts.At(3)}, come: row{ts.At(1)}},
		{t: ts.At(1), n: -1, gone: row{ts.At(1)}, come: row{ts.At(3)}},
	})
}

func TestAddSums(t *testing.T) {
	c, x := New(), ts.At(4, 2)
	sum := 0
	for i, n := range []int{1, 5, 0, -2, -4, 0, -3, 1, 2, 7, -9, 9, -7} {
		add(t, c, x, n)
		sum += n
		if c.Count(x) != sum {
			t.Error(i, n, c.Count(x), sum)
		}
		if in := slices.Contains(c.All(), x); in != (sum != 0) {
			t.Error(i, n, "All", in)
		}
		if in := slices.Contains(c.Frontier(), x); in != (sum > 0) {
			t.Error(i, n, "Frontier", in)
		}
	}
}

// A time is of the frontier while its number is above 0, and not a moment longer or shorter.
func TestAddAroundNought(t *testing.T) {
	x := row{ts.At(7)}
	walk(t, New(), []step{
		{t: x[0], n: 0},
		{t: x[0], n: 2, come: x},
		{t: x[0], n: 3},
		{t: x[0], n: 0},
		{t: x[0], n: -4},
		{t: x[0], n: -1, gone: x},
		{t: x[0], n: 0},
		{t: x[0], n: -1},
		{t: x[0], n: -1},
		{t: x[0], n: 1},
		{t: x[0], n: 1},
		{t: x[0], n: 1, come: x},
		{t: x[0], n: -2, gone: x},
		{t: x[0], n: 2, come: x},
		{t: x[0], n: -1, gone: x},
	})
}

// One that is below 0 hides none, and one that is hidden comes and goes untold.
func TestAddHidden(t *testing.T) {
	walk(t, New(), []step{
		{t: ts.At(5), n: 1, come: row{ts.At(5)}},
		{t: ts.At(2), n: -1},
		{t: ts.At(8), n: 1},
		{t: ts.At(8), n: -1},
		{t: ts.At(9), n: 4},
		{t: ts.At(2), n: 2, gone: row{ts.At(5)}, come: row{ts.At(2)}},
		{t: ts.At(5), n: -1},
		{t: ts.At(2), n: -3, gone: row{ts.At(2)}, come: row{ts.At(9)}},
		{t: ts.At(9), n: -4, gone: row{ts.At(9)}},
	})
}

func TestAddDepths(t *testing.T) {
	walk(t, New(), []step{
		{t: ts.At(3, 0, 0), n: 1, come: row{ts.At(3, 0, 0)}},
		{t: ts.At(9), n: 1, come: row{ts.At(9)}},
		{t: ts.At(0, 0, 0, 0), n: 1, come: row{ts.At(0, 0, 0, 0)}},
		{t: ts.At(5, 1), n: 1, come: row{ts.At(5, 1)}},
		{t: ts.At(4, 2), n: 1, come: row{ts.At(4, 2)}},
		{t: ts.At(3, 3), n: 1, come: row{ts.At(3, 3)}},
		{t: ts.At(5, 2), n: 1},
		{t: ts.At(4, 1), n: 1, gone: row{ts.At(4, 2), ts.At(5, 1)}, come: row{ts.At(4, 1)}},
		{t: ts.At(0), n: 1, gone: row{ts.At(9)}, come: row{ts.At(0)}},
		{t: ts.At(0, 0), n: 1, gone: row{ts.At(3, 3), ts.At(4, 1)}, come: row{ts.At(0, 0)}},
		{t: ts.At(0, 0, 0), n: 1, gone: row{ts.At(3, 0, 0)}, come: row{ts.At(0, 0, 0)}},
		{t: ts.At(0, 0), n: -1, gone: row{ts.At(0, 0)}, come: row{ts.At(3, 3), ts.At(4, 1)}},
	})
}

// All that one time hid comes at once, and goes at once, in the order of times, in whatever order it was added.
func TestAddSeveralComeAndGo(t *testing.T) {
	several := row{ts.At(1, 0, 0, 9), ts.At(2, 0, 0, 8), ts.At(2, 0, 1, 7), ts.At(2, 0, 2, 6), ts.At(2, 1, 0, 0), ts.At(3, 0, 0, 0)}
	for i := range several {
		added := append(slices.Clone(several[i:]), several[:i]...)
		slices.Reverse(added)
		c := of(t, added...)
		low := ts.At(1, 0, 0, 0)
		walk(t, c, []step{
			{t: low, n: 1, gone: several, come: row{low}},
			{t: low, n: 1},
			{t: low, n: -1},
			{t: low, n: -1, gone: row{low}, come: several},
			{t: low, n: -1},
		})
	}
}

func TestAddArg(t *testing.T) {
	c := of(t, ts.At(3), ts.At(2, 1), ts.At(1, 2), ts.At(1, 0, 0, 1))
	add(t, c, ts.At(1), -1)
	was := tell(c)
	for _, x := range wrongTimes() {
		for _, n := range append(wrongNumbers(), 1, 0, -1, 1<<30) {
			walk(t, c, []step{{t: x, n: n, e: api.ErrArg}})
		}
		if c.Count(x) != 0 {
			t.Error(x, c.Count(x))
		}
	}
	for _, n := range wrongNumbers() {
		for _, x := range (row{ts.At(3), ts.At(1), ts.At(0), ts.At(1<<20, 1000, 1000, 1000)}) {
			walk(t, c, []step{{t: x, n: n, e: api.ErrArg}})
		}
	}
	if tell(c) != was {
		t.Error(tell(c))
	}
	// though both together would be a number that may be
	add(t, c, ts.At(3), 1<<30-1)
	walk(t, c, []step{{t: ts.At(3), n: -1<<30 - 1, e: api.ErrArg}})
}

// The greatest and the least times that may be are times like others.
func TestAddTimesAtTheEdge(t *testing.T) {
	for _, x := range (row{{}, ts.At(1 << 20), ts.At(0, 0), ts.At(1<<20, 1000), ts.At(0, 0, 0), ts.At(1<<20, 1000, 1000), ts.At(0, 0, 0, 0), ts.At(1<<20, 1000, 1000, 1000)}) {
		walk(t, New(), []step{{t: x, n: 1, come: row{x}}, {t: x, n: -1, gone: row{x}}})
	}
}

func TestAddNumbersAtTheEdge(t *testing.T) {
	x, most := ts.At(2, 2), 1<<30
	c := New()
	walk(t, c, []step{
		{t: x, n: most, come: row{x}},
		{t: x, n: 1, e: api.ErrOver},
		{t: x, n: most, e: api.ErrOver},
		{t: x, n: 0},
	})
	if c.Count(x) != most {
		t.Error(c.Count(x))
	}
	walk(t, c, []step{
		{t: x, n: -most, gone: row{x}},
		{t: x, n: -most},
		{t: x, n: -1, e: api.ErrOver},
		{t: x, n: -most, e: api.ErrOver},
		{t: x, n: 0},
	})
	if c.Count(x) != -most || !slices.Equal(c.All(), row{x}) {
		t.Error(c.Count(x), c.All())
	}
	walk(t, c, []step{
		{t: x, n: most},
		{t: x, n: most - 1, come: row{x}},
		{t: x, n: 2, e: api.ErrOver},
		{t: x, n: 1},
		{t: x, n: 1, e: api.ErrOver},
		// the bound is of each time by itself
		{t: ts.At(2, 1), n: most, gone: row{x}, come: row{ts.At(2, 1)}},
	})
	if c.Count(x) != most {
		t.Error(c.Count(x))
	}
}

// A number that goes over changes nothing: not its own time's, no other's.
func TestAddOver(t *testing.T) {
	c := of(t, ts.At(3), ts.At(2, 1), ts.At(1, 2))
	add(t, c, ts.At(1), -2)
	was := tell(c)
	walk(t, c, []step{
		{t: ts.At(3), n: 1 << 30, e: api.ErrOver},
		{t: ts.At(1), n: -1 << 30, e: api.ErrOver},
		{t: ts.At(1), n: -1<<30 + 1, e: api.ErrOver},
	})
	if tell(c) != was {
		t.Error(tell(c))
	}
}

func TestAddBig(t *testing.T) {
	c := full(t)
	was := tell(c)
	walk(t, c, []step{
		{t: ts.At(400), n: 1, e: api.ErrBig},
		{t: ts.At(400), n: -1, e: api.ErrBig},
		{t: ts.At(400), n: 1 << 30, e: api.ErrBig},
		{t: ts.At(0, 0), n: 1, e: api.ErrBig},
		// one whose number stays 0 is not one more
		{t: ts.At(400), n: 0},
	})
	if tell(c) != was {
		t.Error("changed")
	}
	walk(t, c, []step{
		// those that are there may become other numbers
		{t: ts.At(7), n: 5},
		{t: ts.At(7), n: -7},
		// one that comes to 0 makes room for just one other
		{t: ts.At(0), n: -1, gone: row{ts.At(0)}, come: row{ts.At(1)}},
		{t: ts.At(2, 2), n: 1, come: row{ts.At(2, 2)}},
		{t: ts.At(0), n: 1, e: api.ErrBig},
		{t: ts.At(2, 2), n: -1, gone: row{ts.At(2, 2)}},
		{t: ts.At(0), n: -1},
		{t: ts.At(2, 2), n: 1, e: api.ErrBig},
		{t: ts.At(0), n: 2, gone: row{ts.At(1)}, come: row{ts.At(0)}},
		{t: ts.At(2, 2), n: 1, e: api.ErrBig},
	})
	if len(c.All()) != 400 {
		t.Error(len(c.All()))
	}
}

// Those below 0 count towards MaxTimes as well.
func TestAddBigBelow(t *testing.T) {
	c := New()
	for e := range 400 {
		add(t, c, ts.At(e, e%3), -1)
	}
	walk(t, c, []step{
		{t: ts.At(400, 0), n: 1, e: api.ErrBig},
		{t: ts.At(400, 0), n: -1, e: api.ErrBig},
		{t: ts.At(9, 0), n: 1},
		{t: ts.At(400, 0), n: 1, come: row{ts.At(400, 0)}},
		{t: ts.At(9, 0), n: 1, e: api.ErrBig},
	})
	if len(c.All()) != 400 || !slices.Equal(c.Frontier(), row{ts.At(400, 0)}) {
		t.Error(len(c.All()), c.Frontier())
	}
}

// 400 times of which none is at most another: all of them go by one, and come again.
func TestAddLongFrontier(t *testing.T) {
	c, wide := New(), row{}
	for e := range 399 {
		wide = append(wide, ts.At(e+1, 399-e))
	}
	for _, x := range slices.Backward(wide) {
		walk(t, c, []step{{t: x, n: 1, come: row{x}}})
	}
	low := ts.At(0, 0)
	walk(t, c, []step{
		{t: low, n: 1, gone: wide, come: row{low}},
		{t: ts.At(0), n: 1, e: api.ErrBig},
		{t: low, n: -1, gone: row{low}, come: wide},
	})
}

func TestAddFirstError(t *testing.T) {
	c := full(t)
	add(t, c, ts.At(5), 1<<30-1)
	was := tell(c)
	walk(t, c, []step{
		// a time that may not be, or a number, ahead of one that goes over and of one time more
		{t: ts.At(-1), n: 1, e: api.ErrArg},
		{t: ts.At(-1), n: 1 << 30, e: api.ErrArg},
		{t: raw(5, 0, 1), n: 1, e: api.ErrArg},
		{t: ts.At(5), n: 1<<30 + 1, e: api.ErrArg},
		{t: ts.At(400), n: 1<<30 + 1, e: api.ErrArg},
		{t: ts.At(400), n: math.MinInt, e: api.ErrArg},
		// a number that goes over while there is no room for more times
		{t: ts.At(5), n: 1, e: api.ErrOver},
		{t: ts.At(400), n: 1, e: api.ErrBig},
	})
	if tell(c) != was {
		t.Error("changed")
	}
}

// pair is a time and its number, as the model keeps it.
type pair struct {
	t api.Time
	n int
}

// model is P4.1 and P4.2 word by word, on a row of pairs.
type model struct{ pairs []pair }

func (m *model) count(t api.Time) int {
	for _, p := range m.pairs {
		if p.t == t {
			return p.n
		}
	}
	return 0
}

func (m *model) those(is func(n int) bool) row {
	l := row{}
	for _, p := range m.pairs {
		if is(p.n) {
			l = append(l, p.t)
		}
	}
	return ts.Sort(l)
}

func (m *model) all() row { return m.those(func(n int) bool { return n != 0 }) }

func (m *model) frontier() row {
	above := m.those(func(n int) bool { return n > 0 })
	return left(above, func(x api.Time) bool {
		return slices.ContainsFunc(above, func(y api.Time) bool { return ts.Less(y, x) })
	})
}

func (m *model) add(t api.Time, n int) (row, row, api.Errno) {
	if !ts.May(t) || n < -api.MaxCount || n > api.MaxCount {
		return nil, nil, api.ErrArg
	}
	sum := m.count(t) + n
	if sum < -api.MaxCount || sum > api.MaxCount {
		return nil, nil, api.ErrOver
	}
	then := model{append(slices.DeleteFunc(slices.Clone(m.pairs), func(p pair) bool { return p.t == t }), pair{t, sum})}
	if len(then.all()) > api.MaxTimes {
		return nil, nil, api.ErrBig
	}
	before, after := m.frontier(), then.frontier()
	*m = then
	gone := left(before, func(x api.Time) bool { return slices.Contains(after, x) })
	come := left(after, func(x api.Time) bool { return slices.Contains(before, x) })
	return gone, come, api.OK
}

// left is those of l that out does not tell of.
func left(l row, out func(x api.Time) bool) row {
	return slices.DeleteFunc(slices.Clone(l), out)
}

// someCalls are calls of a rule that scatters them: over few times, so that their numbers come to 0 and below again and again.
func someCalls(many, times int) []pair {
	l, seed := []pair{}, uint32(7)
	next := func(below int) int {
		seed = seed*1664525 + 1013904223
		return int(seed>>8) % below
	}
	numbers := []int{1, 1, 1, 2, -1, -1, -1, -2, 0, 1 << 30, -1 << 30, 1<<30 + 1}
	for range many {
		t := raw(next(times)-1, next(4))
		for i := range t.Depth {
			t.L[i] = next(times)
		}
		l = append(l, pair{t, numbers[next(len(numbers))]})
	}
	return l
}

func TestAddAgainstModel(t *testing.T) {
	for times := 2; times <= 4; times++ {
		c, m := New(), &model{}
		for i, x := range someCalls(1500, times) {
			gone, come, e := c.Add(x.t, x.n)
			wantGone, wantCome, want := m.add(x.t, x.n)
			if !slices.Equal(gone, wantGone) || !slices.Equal(come, wantCome) || e != want {
				t.Fatal(i, x, gone, come, e, "for", wantGone, wantCome, want)
			}
			if c.Count(x.t) != m.count(x.t) || !slices.Equal(c.All(), m.all()) || !slices.Equal(c.Frontier(), m.frontier()) {
				t.Fatal(i, x, tell(c), "for", m.all(), m.frontier())
			}
		}
	}
}

// P4.2

func TestNothingYet(t *testing.T) {
	for i, c := range []*Counts{New(), {}, New().Clone(), (&Counts{}).Clone()} {
		if len(c.All()) != 0 || len(c.Frontier()) != 0 || c.Count(api.Time{}) != 0 || c.Count(ts.At(3, 1)) != 0 {
			t.Error(i, tell(c))
		}
		walk(t, c, []step{
			{t: ts.At(1), n: 0},
			{t: ts.At(1), n: -1},
			{t: ts.At(2), n: 1, come: row{ts.At(2)}},
			{t: ts.At(-1), n: 1, e: api.ErrArg},
		})
		if !slices.Equal(c.All(), row{ts.At(1), ts.At(2)}) {
			t.Error(i, tell(c))
		}
	}
}

func TestCount(t *testing.T) {
	c := New()
	add(t, c, ts.At(3, 1), 5)
	add(t, c, ts.At(3), -2)
	add(t, c, ts.At(3, 1, 0), 1<<30)
	for i, x := range []struct {
		t    api.Time
		want int
	}{
		{ts.At(3, 1), 5},
		{ts.At(3), -2},
		{ts.At(3, 1, 0), 1 << 30},
		{ts.At(3, 1, 0, 0), 0},
		{ts.At(3, 0), 0},
		{ts.At(2, 1), 0},
		{api.Time{}, 0},
		// no time that may be is like one of these
		{raw(3, 0, 1), 0},
		{raw(3, 1, 1, 1), 0},
		{raw(3, 4, 1), 0},
		{ts.At(math.MinInt), 0},
	} {
		if got := c.Count(x.t); got != x.want {
			t.Error(i, got)
		}
	}
}

func TestAll(t *testing.T) {
	c := New()
	for _, x := range (row{ts.At(0, 0, 0, 1), ts.At(2, 1), ts.At(9), ts.At(1, 7), ts.At(0, 0, 0), ts.At(3), ts.At(2, 0), ts.At(0, 0, 0, 0)}) {
		add(t, c, x, 1)
	}
	add(t, c, ts.At(5), -3)
	add(t, c, ts.At(4), 0)
	want := row{ts.At(3), ts.At(5), ts.At(9), ts.At(1, 7), ts.At(2, 0), ts.At(2, 1), ts.At(0, 0, 0), ts.At(0, 0, 0, 0), ts.At(0, 0, 0, 1)}
	if got := c.All(); !slices.Equal(got, want) {
		t.Error(got)
	}
	add(t, c, ts.At(9), -1)
	add(t, c, ts.At(5), 3)
	add(t, c, ts.At(2, 1), -2)
	want = row{ts.At(3), ts.At(1, 7), ts.At(2, 0), ts.At(2, 1), ts.At(0, 0, 0), ts.At(0, 0, 0, 0), ts.At(0, 0, 0, 1)}
	if got := c.All(); !slices.Equal(got, want) {
		t.Error(got)
	}
	for _, x := range want {
		add(t, c, x, -c.Count(x))
	}
	if got := c.All(); len(got) != 0 {
		t.Error(got)
	}
}

func TestFrontier(t *testing.T) {
	c := New()
	for _, x := range (row{ts.At(3, 1), ts.At(2, 1), ts.At(9), ts.At(1, 3), ts.At(7), ts.At(2, 2), ts.At(0, 0, 0)}) {
		add(t, c, x, 1)
	}
	add(t, c, ts.At(0, 0), -1)
	add(t, c, ts.At(6), -1)
	add(t, c, ts.At(5, 0), 3)
	if got := c.Frontier(); !slices.Equal(got, row{ts.At(7), ts.At(1, 3), ts.At(2, 1), ts.At(5, 0), ts.At(0, 0, 0)}) {
		t.Error(got)
	}
	add(t, c, ts.At(6), 2)
	add(t, c, ts.At(2, 1), -1)
	add(t, c, ts.At(0, 0, 0), -2)
	if got := c.Frontier(); !slices.Equal(got, row{ts.At(6), ts.At(1, 3), ts.At(2, 2), ts.At(3, 1), ts.At(5, 0)}) {
		t.Error(got)
	}
}

func TestClone(t *testing.T) {
	c := of(t, ts.At(3), ts.At(2, 1), ts.At(1, 2))
	add(t, c, ts.At(1), -4)
	was := tell(c)
	d := c.Clone()
	if tell(d) != was {
		t.Error(tell(d))
	}
	add(t, d, ts.At(3), 5)
	add(t, d, ts.At(2, 1), -1)
	add(t, d, ts.At(0), 1)
	if tell(c) != was {
		t.Error(tell(c))
	}
	then := tell(d)
	add(t, c, ts.At(3), -1)
	add(t, c, ts.At(1), 9)
	add(t, c, ts.At(8, 8, 8), 1)
	if tell(d) != then {
		t.Error(tell(d))
	}
	e := d.Clone().Clone()
	add(t, e, ts.At(0), -1)
	if tell(d) != then {
		t.Error(tell(d))
	}
}

// The room that one has is not that of the other.
func TestCloneFull(t *testing.T) {
	c := full(t)
	d := c.Clone()
	walk(t, d, []step{{t: ts.At(400), n: 1, e: api.ErrBig}})
	walk(t, c, []step{{t: ts.At(9), n: -1}, {t: ts.At(400), n: 1}})
	walk(t, d, []step{{t: ts.At(400), n: 1, e: api.ErrBig}, {t: ts.At(0), n: -1, gone: row{ts.At(0)}, come: row{ts.At(1)}}, {t: ts.At(400), n: 1}})
	if c.Count(ts.At(9)) != 0 || d.Count(ts.At(9)) != 1 || c.Count(ts.At(0)) != 1 || d.Count(ts.At(0)) != 0 {
		t.Error(c.Count(ts.At(9)), d.Count(ts.At(9)), c.Count(ts.At(0)), d.Count(ts.At(0)))
	}
}

// R7: what is answered is the caller's own, the room behind its end too.
func TestAnswersAreNew(t *testing.T) {
	c := of(t, ts.At(3, 0), ts.At(2, 1), ts.At(1, 2))
	was := tell(c)
	low := ts.At(0, 0)
	for range 2 {
		gone, come, e := c.Add(low, 1)
		back, again, f := c.Add(low, -1)
		if e != api.OK || f != api.OK || len(gone) != 3 || len(come) != 1 || len(back) != 1 || len(again) != 3 {
			t.Error(gone, come, e, back, again, f)
		}
		lists := []row{gone, come, back, again, c.All(), c.All(), c.Frontier(), c.Frontier(), c.Clone().All(), c.Clone().Frontier()}
		copies := []row{}
		for _, l := range lists {
			copies = append(copies, slices.Clone(l))
		}
		for i := range lists {
			for j := range lists[i][:cap(lists[i])] {
				lists[i][:cap(lists[i])][j] = raw(-9, 9, 9)
			}
			if tell(c) != was {
				t.Error(i, tell(c))
			}
			for k := i + 1; k < len(lists); k++ {
				if !slices.Equal(lists[k], copies[k]) {
					t.Error(i, k, lists[k])
				}
			}
		}
	}
}

// P4.3

// orders hands each order of l to see.
func orders(l []pair, see func(l []pair)) {
	var from func(i int)
	from = func(i int) {
		if i == len(l) {
			see(l)
			return
		}
		for j := i; j < len(l); j++ {
			l[i], l[j] = l[j], l[i]
			from(i + 1)
			l[i], l[j] = l[j], l[i]
		}
	}
	from(0)
}

func TestAnyOrder(t *testing.T) {
	for i, l := range [][]pair{
		{{ts.At(3), 1}, {ts.At(1), 1}, {ts.At(1), -1}, {ts.At(2), -1}, {ts.At(2), 2}, {ts.At(3), -2}},
		{{ts.At(2, 1), 1}, {ts.At(1, 2), 1}, {ts.At(1, 1), 1}, {ts.At(1, 1), -1}, {ts.At(3), 5}, {ts.At(0, 0, 0), -1}},
		{{ts.At(5), 1 << 29}, {ts.At(5), -1 << 29}, {ts.At(5), -1 << 29}, {ts.At(5), 1 << 29}, {ts.At(4), -1}, {ts.At(4), 1}},
		{{ts.At(0, 0, 0, 1), 1}, {ts.At(0, 0, 1, 0), 2}, {ts.At(0, 1, 0, 0), 3}, {ts.At(1, 0, 0, 0), 4}, {ts.At(0, 0, 0, 0), -1}, {ts.At(0, 1, 0, 0), -4}},
	} {
		want := ""
		orders(l, func(l []pair) {
			c := New()
			for _, x := range l {
				add(t, c, x.t, x.n)
			}
			if want == "" {
				want = tell(c)
			}
			if tell(c) != want {
				t.Error(i, l, tell(c), "for", want)
			}
		})
	}
}

// Added up, what is told to come and to go is the frontier, whichever way it was come to.
func TestToldIsFrontier(t *testing.T) {
	calls := someCalls(600, 3)
	back := slices.Clone(calls)
	slices.Reverse(back)
	for _, l := range [][]pair{calls, back} {
		c, told := New(), row{}
		for i, x := range l {
			gone, come, _ := c.Add(x.t, x.n)
			for _, g := range gone {
				if !slices.Contains(told, g) {
					t.Error(i, x, g)
				}
			}
			told = ts.Sort(append(left(told, func(y api.Time) bool { return slices.Contains(gone, y) }), come...))
			if !slices.Equal(told, c.Frontier()) {
				t.Fatal(i, x, told, c.Frontier())
			}
		}
	}
}

// R6: the same calls answer the same, each time anew.
func TestSameCallsSameAnswers(t *testing.T) {
	run := func() string {
		c, s := New(), ""
		for _, x := range someCalls(300, 4) {
			gone, come, e := c.Add(x.t, x.n)
			s += fmt.Sprint(gone, come, e, tell(c))
		}
		return s
	}
	want := run()
	for i := range 5 {
		if run() != want {
			t.Error(i)
		}
	}
}
