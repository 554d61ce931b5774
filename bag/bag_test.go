package bag

import (
	"math"
	"slices"
	"testing"

	"meander/api"
)

// row is records, written short.
type row = []api.Rec

// p is a key and a value, as recs takes them.
type p = [2]int

func recs(l ...p) row {
	made := row{}
	for _, x := range l {
		made = append(made, api.Rec{Key: x[0], Val: x[1]})
	}
	return made
}

// most is the greatest number that may be, written out, so that a bound that is another one is found.
const most = 1099511627776

// wrongNumbers are numbers that may not be of a record.
func wrongNumbers() []int {
	return []int{most + 1, -most - 1, most * 2, -most * 2, math.MaxInt, math.MinInt}
}

// farApart are records of numbers so far apart that the lesser less the greater is no int; none may be but two.
func farApart() row {
	return recs(
		p{math.MinInt, math.MinInt}, p{math.MinInt, math.MaxInt}, p{-most - 1, 0}, p{-most, most},
		p{0, math.MinInt}, p{0, 0}, p{0, math.MaxInt}, p{most + 1, most + 1}, p{math.MaxInt, math.MinInt}, p{math.MaxInt, math.MaxInt},
	)
}

// someRecs are a few records of which all pairs are gone through: like keys, like values, both below 0, at the edge, and ones that may not be.
func someRecs() row {
	l := row{}
	for _, k := range []int{-most, -2, -1, 0, 1, 2, most} {
		for _, v := range []int{-most, -1, 0, 1, most} {
			l = append(l, api.Rec{Key: k, Val: v})
		}
	}
	return append(l, farApart()...)
}

// smallRows are all rows of up to many of four records: two share a key, two a value.
func smallRows(many int) []row {
	few := recs(p{0, 0}, p{-1, 5}, p{2, -7}, p{2, 5})
	rows, last := []row{nil}, []row{{}}
	for range many {
		var longer []row
		for _, l := range last {
			for _, r := range few {
				longer = append(longer, append(slices.Clone(l), r))
			}
		}
		rows, last = append(rows, longer...), longer
	}
	return rows
}

// scattered is a long row of a rule that scatters it over few records, so that each is there often.
func scattered(many int, seed uint32) row {
	l := row{}
	next := func() int {
		seed = seed*1664525 + 1013904223
		return int(seed>>8)%9 - 4
	}
	for range many {
		l = append(l, api.Rec{Key: next(), Val: next()})
	}
	return l
}

// often is how often r is in l, asked field by field.
func often(l row, r api.Rec) int {
	n := 0
	for _, x := range l {
		if x.Key == r.Key && x.Val == r.Val {
			n++
		}
	}
	return n
}

// ahead is P5.1's order word by word.
func ahead(a, b api.Rec) bool {
	return a.Key < b.Key || a.Key == b.Key && a.Val < b.Val
}

// inOrder tells whether none of l stands ahead of the one before it.
func inOrder(l row) bool {
	for i := range l {
		if i > 0 && ahead(l[i], l[i-1]) {
			return false
		}
	}
	return true
}

// is tells whether got is in order, and has each of some records as often as want says.
func is(got, some row, want func(r api.Rec) int) bool {
	for _, r := range got {
		if often(some, r) == 0 {
			return false
		}
	}
	for _, r := range some {
		if often(got, r) != want(r) {
			return false
		}
	}
	return inOrder(got)
}

// both is the records of a and b, for is.
func both(a, b row) row {
	return append(slices.Clone(a), b...)
}

// P5.1

func TestMay(t *testing.T) {
	right := []int{0, 1, -1, 7, -7, most - 1, most, -most + 1, -most}
	for _, k := range right {
		for _, v := range right {
			if !May(api.Rec{Key: k, Val: v}) {
				t.Error(k, v)
			}
		}
		for _, w := range wrongNumbers() {
			if May(api.Rec{Key: k, Val: w}) || May(api.Rec{Key: w, Val: k}) {
				t.Error(k, w)
			}
		}
	}
	for _, k := range wrongNumbers() {
		for _, v := range wrongNumbers() {
			if May(api.Rec{Key: k, Val: v}) {
				t.Error(k, v)
			}
		}
	}
	if api.MaxNum != most {
		t.Error(api.MaxNum)
	}
}

func TestOrder(t *testing.T) {
	for i, x := range []struct {
		a, b api.Rec
		want int
	}{
		{api.Rec{Key: 1, Val: 6}, api.Rec{Key: 2, Val: 5}, -1},
		{api.Rec{Key: 2, Val: 5}, api.Rec{Key: 1, Val: 6}, 1},
		{api.Rec{Key: 1, Val: 6}, api.Rec{Key: 1, Val: 6}, 0},
		{api.Rec{Key: 1, Val: 6}, api.Rec{Key: 1, Val: 7}, -1},
		{api.Rec{Key: 1, Val: 60}, api.Rec{Key: 1, Val: 7}, 1},
		{api.Rec{Key: -2, Val: 9}, api.Rec{Key: -1, Val: 0}, -1},
		{api.Rec{Key: -1, Val: -2}, api.Rec{Key: -1, Val: -3}, 1},
		{api.Rec{Key: -1, Val: 3}, api.Rec{Key: 0, Val: -3}, -1},
		{api.Rec{}, api.Rec{}, 0},
		{api.Rec{Key: -most, Val: most}, api.Rec{Key: most, Val: -most}, -1},
		{api.Rec{Key: 0, Val: most}, api.Rec{Key: 0, Val: -most}, 1},
		{api.Rec{Key: math.MinInt}, api.Rec{Key: math.MaxInt}, -1},
		{api.Rec{Val: math.MaxInt}, api.Rec{Val: math.MinInt}, 1},
	} {
		if got := Order(x.a, x.b); got != x.want {
			t.Error(i, x, got)
		}
	}
}

// Of each two just one of three holds, and it is what the words say, of records that may not be too.
func TestOrderOfAllPairs(t *testing.T) {
	for _, a := range someRecs() {
		for _, b := range someRecs() {
			want := 0
			if ahead(a, b) {
				want = -1
			}
			if ahead(b, a) {
				want = 1
			}
			if got := Order(a, b); got != want {
				t.Error(a, b, got)
			}
		}
	}
}

func TestSort(t *testing.T) {
	for i, x := range []struct{ l, want row }{
		{nil, nil},
		{row{}, nil},
		{recs(p{3, 4}), recs(p{3, 4})},
		{recs(p{2, 5}, p{1, 6}, p{2, 5}), recs(p{1, 6}, p{2, 5}, p{2, 5})},
		{recs(p{1, 1}, p{1, 1}, p{1, 1}), recs(p{1, 1}, p{1, 1}, p{1, 1})},
		{recs(p{1, 3}, p{1, -2}, p{1, 0}, p{1, 2}), recs(p{1, -2}, p{1, 0}, p{1, 2}, p{1, 3})},
		{recs(p{0, 9}, p{-1, 0}, p{-2, 5}, p{1, -8}), recs(p{-2, 5}, p{-1, 0}, p{0, 9}, p{1, -8})},
		{recs(p{most, -most}, p{-most, most}, p{most, most}, p{-most, -most}), recs(p{-most, -most}, p{-most, most}, p{most, -most}, p{most, most})},
		{recs(p{most + 1, 0}, p{-most - 1, 0}, p{0, 0}), recs(p{-most - 1, 0}, p{0, 0}, p{most + 1, 0})},
	} {
		if got := Sort(x.l); !slices.Equal(got, x.want) {
			t.Error(i, got)
		}
	}
	back := farApart()
	slices.Reverse(back)
	if got := Sort(back); !slices.Equal(got, farApart()) {
		t.Error(got)
	}
}

// As many as there are, of each record.
func TestSortOfMany(t *testing.T) {
	rows := append(smallRows(5), someRecs(), scattered(200, 3), scattered(201, 4))
	for _, l := range rows {
		if got := Sort(l); len(got) != len(l) || !is(got, l, func(r api.Rec) int { return often(l, r) }) {
			t.Error(l, got)
		}
	}
}

// P5.2

func TestSame(t *testing.T) {
	a, b, c := api.Rec{Key: 1, Val: 6}, api.Rec{Key: 2, Val: 5}, api.Rec{Key: 1, Val: 5}
	for i, x := range []struct {
		a, b row
		want bool
	}{
		{nil, nil, true},
		{nil, row{}, true},
		{nil, row{{}}, false},
		{row{{}}, row{{}}, true},
		{row{{}}, row{{}, {}}, false},
		{row{a}, row{a}, true},
		{row{a}, row{b}, false},
		{row{a}, row{c}, false},
		{row{b}, row{c}, false},
		{row{a, b, a}, row{a, a, b}, true},
		{row{a, b}, row{a, a, b}, false},
		{row{a, b, b}, row{a, a, b}, false},
		{row{a, b, c}, row{c, b, a}, true},
		{row{a, b, c}, row{c, b}, false},
		// the same keys and the same values, but not the same records
		{recs(p{1, 2}, p{3, 4}), recs(p{1, 4}, p{3, 2}), false},
		{recs(p{1, 2}), recs(p{2, 1}), false},
		{recs(p{-1, 2}), recs(p{1, -2}), false},
		{recs(p{most, -most}, p{-most, most}), recs(p{-most, most}, p{most, -most}), true},
		{recs(p{most, 0}), recs(p{-most, 0}), false},
		{recs(p{0, most + 1}, p{math.MinInt, 0}), recs(p{math.MinInt, 0}, p{0, most + 1}), true},
		{recs(p{0, math.MaxInt}), recs(p{0, math.MinInt}), false},
	} {
		if Same(x.a, x.b) != x.want || Same(x.b, x.a) != x.want {
			t.Error(i, x)
		}
	}
}

// orders hands each order of l to see.
func orders(l row, see func(l row)) {
	var from func(i int)
	from = func(i int) {
		if i == len(l) {
			see(l)
			return
		}
		for j := i; j < len(l); j++ {
			l[i], l[j] = l[j], l[i]
			from(i + 1)
			l[i], l[j] = l[j], l[i]
		}
	}
	from(0)
}

func TestSameInAnyOrder(t *testing.T) {
	for _, l := range []row{
		recs(p{1, 6}, p{2, 5}, p{1, 6}, p{1, 5}, p{-3, 0}, p{most, -most}),
		recs(p{0, 0}, p{0, 0}, p{0, 1}, p{1, 0}, p{1, 0}, p{1, 1}),
	} {
		want, other := slices.Clone(l), slices.Clone(l)
		other[2].Val++
		orders(slices.Clone(l), func(x row) {
			if !Same(x, want) || !Same(want, x) || Same(x, other) || Same(other, x) || Same(x[1:], want) || Same(want, x[1:]) {
				t.Error(x)
			}
		})
	}
}

func TestSameOfAllPairs(t *testing.T) {
	rows := smallRows(3)
	for _, a := range rows {
		for _, b := range rows {
			want := true
			for _, r := range both(a, b) {
				want = want && often(a, r) == often(b, r)
			}
			if Same(a, b) != want {
				t.Error(a, b)
			}
		}
	}
}

func TestJoin(t *testing.T) {
	for i, x := range []struct {
		l    []row
		want row
	}{
		{nil, nil},
		{[]row{}, nil},
		{[]row{nil}, nil},
		{[]row{nil, {}, nil}, nil},
		{[]row{recs(p{3, 4})}, recs(p{3, 4})},
		{[]row{recs(p{3, 4}, p{1, 2}, p{3, 4}, p{-1, 0})}, recs(p{-1, 0}, p{1, 2}, p{3, 4}, p{3, 4})},
		{[]row{recs(p{3, 7}, p{1, 6}), nil, recs(p{2, 5}, p{1, 6})}, recs(p{1, 6}, p{1, 6}, p{2, 5}, p{3, 7})},
		{[]row{recs(p{1, 1}), recs(p{1, 1}), recs(p{1, 0}), recs(p{1, 1}), recs(p{1, 2})}, recs(p{1, 0}, p{1, 1}, p{1, 1}, p{1, 1}, p{1, 2})},
		{[]row{recs(p{most, most}), recs(p{-most, most}, p{0, 0}), recs(p{-most, -most})}, recs(p{-most, -most}, p{-most, most}, p{0, 0}, p{most, most})},
		{[]row{recs(p{most + 1, 0}), recs(p{0, -most - 1}, p{math.MinInt, 0})}, recs(p{math.MinInt, 0}, p{0, -most - 1}, p{most + 1, 0})},
	} {
		if got := Join(x.l...); !slices.Equal(got, x.want) {
			t.Error(i, got)
		}
	}
	if got := Join(); len(got) != 0 {
		t.Error(got)
	}
	if got := Join(recs(p{2, 1}), recs(p{1, 2})); !slices.Equal(got, recs(p{1, 2}, p{2, 1})) {
		t.Error(got)
	}
}

func TestJoinOfAllPairs(t *testing.T) {
	rows := append(smallRows(3), scattered(100, 5), scattered(70, 6))
	for _, a := range rows {
		for _, b := range rows {
			want := func(r api.Rec) int { return often(a, r) + often(b, r) }
			if got := Join(a, b); len(got) != len(a)+len(b) || !is(got, both(a, b), want) {
				t.Error(a, b, got)
			}
		}
	}
}

func TestMinus(t *testing.T) {
	for i, x := range []struct{ a, b, want row }{
		// the chapter's example
		{recs(p{2, 5}, p{1, 6}, p{2, 5}), recs(p{2, 5}, p{3, 7}), recs(p{1, 6}, p{2, 5})},
		{nil, nil, nil},
		{row{}, row{}, nil},
		{nil, recs(p{1, 2}), nil},
		{recs(p{2, 1}, p{1, 2}), nil, recs(p{1, 2}, p{2, 1})},
		{recs(p{2, 1}, p{1, 2}, p{2, 1}), row{}, recs(p{1, 2}, p{2, 1}, p{2, 1})},
		{recs(p{1, 2}), recs(p{1, 2}), nil},
		{recs(p{1, 2}), recs(p{1, 3}), recs(p{1, 2})},
		{recs(p{1, 2}), recs(p{2, 2}), recs(p{1, 2})},
		// more often in b than in a: none is left, and none of the others is less
		{recs(p{1, 2}, p{0, 4}, p{1, 3}), recs(p{1, 2}, p{1, 2}, p{1, 2}), recs(p{0, 4}, p{1, 3})},
		{recs(p{1, 2}, p{1, 2}, p{1, 2}), recs(p{1, 2}), recs(p{1, 2}, p{1, 2})},
		{recs(p{1, 2}, p{1, 2}, p{1, 2}), recs(p{1, 2}, p{1, 2}), recs(p{1, 2})},
		// not in a at all
		{recs(p{5, 5}, p{4, 4}), recs(p{6, 6}, p{3, 3}, p{4, 5}, p{5, 4}), recs(p{4, 4}, p{5, 5})},
		{recs(p{-1, 3}, p{-1, -3}, p{-2, 0}, p{1, 3}), recs(p{-1, -3}, p{-2, 1}), recs(p{-2, 0}, p{-1, 3}, p{1, 3})},
		{recs(p{most, -most}, p{-most, most}, p{most, most}), recs(p{-most, most}, p{-most, -most}), recs(p{most, -most}, p{most, most})},
		{recs(p{most + 1, 0}, p{0, math.MinInt}, p{math.MaxInt, 1}), recs(p{0, math.MinInt}, p{most, 0}), recs(p{most + 1, 0}, p{math.MaxInt, 1})},
	} {
		if got := Minus(x.a, x.b); !slices.Equal(got, x.want) {
			t.Error(i, got)
		}
	}
}

func TestMinusOfAllPairs(t *testing.T) {
	rows := append(smallRows(3), scattered(150, 7), scattered(150, 8), scattered(400, 9))
	for _, a := range rows {
		for _, b := range rows {
			want := func(r api.Rec) int { return max(0, often(a, r)-often(b, r)) }
			if got := Minus(a, b); !is(got, a, want) {
				t.Error(a, b, got)
			}
		}
	}
}

func TestKeys(t *testing.T) {
	for i, x := range []struct {
		l    row
		want []int
	}{
		{nil, nil},
		{row{}, nil},
		{row{{}}, []int{0}},
		{recs(p{3, 9}), []int{3}},
		{recs(p{3, 7}, p{1, 6}, p{3, 7}, p{2, 5}), []int{1, 2, 3}},
		{recs(p{1, 3}, p{1, 2}, p{1, 1}), []int{1}},
		{recs(p{2, 1}, p{1, 2}, p{2, 3}, p{1, 4}, p{2, 5}), []int{1, 2}},
		{recs(p{-1, 0}, p{1, 0}, p{-3, 0}, p{0, 0}, p{-1, 5}), []int{-3, -1, 0, 1}},
		{recs(p{most, 0}, p{-most, 0}, p{most, -1}), []int{-most, most}},
		{recs(p{math.MaxInt, 0}, p{most + 1, 0}, p{math.MinInt, 0}, p{-most - 1, 0}), []int{math.MinInt, -most - 1, most + 1, math.MaxInt}},
	} {
		if got := Keys(x.l); !slices.Equal(got, x.want) {
			t.Error(i, got)
		}
	}
}

func TestKeysOfMany(t *testing.T) {
	for _, l := range append(smallRows(5), someRecs(), scattered(200, 10)) {
		got := Keys(l)
		for i, k := range got {
			if i > 0 && got[i-1] >= k {
				t.Error(l, got)
			}
			if !slices.ContainsFunc(l, func(r api.Rec) bool { return r.Key == k }) {
				t.Error(l, got, k)
			}
		}
		for _, r := range l {
			if !slices.Contains(got, r.Key) {
				t.Error(l, got, r)
			}
		}
	}
}

// P5.3

func TestJoinLessOneIsTheOther(t *testing.T) {
	rows := append(smallRows(3), someRecs(), scattered(100, 11), scattered(150, 12))
	for _, a := range rows {
		for _, b := range rows {
			joined := Join(a, b)
			if got := Minus(joined, a); !Same(got, b) || !slices.Equal(got, Sort(b)) {
				t.Error(a, b, got)
			}
			if got := Minus(joined, b); !Same(got, a) || !slices.Equal(got, Sort(a)) {
				t.Error(a, b, got)
			}
			if got := Minus(joined, joined); len(got) != 0 {
				t.Error(a, b, got)
			}
		}
	}
}

// R7

// spare is l with room behind its end, filled with records that are not to change.
func spare(l row) row {
	whole := append(slices.Clone(l), api.Rec{Key: 99, Val: 1}, api.Rec{Key: -99, Val: 2}, api.Rec{Key: 99, Val: 1}, api.Rec{Key: 98, Val: 3})
	return whole[:len(l)]
}

// whole is a list with the room behind its end.
func whole[T any](l []T) []T { return l[:cap(l)] }

func TestHandedInIsNotChanged(t *testing.T) {
	for _, x := range []struct{ a, b row }{
		{recs(p{3, 1}, p{2, 5}, p{1, 6}, p{2, 5}, p{0, 0}), recs(p{2, 5}, p{3, 7}, p{0, 0}, p{-1, 4})},
		{recs(p{1, 1}), recs(p{1, 1})},
		{row{}, recs(p{2, 2}, p{1, 1})},
		{recs(p{2, 2}, p{1, 1}), row{}},
	} {
		a, b := spare(x.a), spare(x.b)
		wasA, wasB := slices.Clone(whole(a)), slices.Clone(whole(b))
		rows := append(make([]row, 0, 5), a, b, a)
		for i, call := range []func(){
			func() { Sort(a) },
			func() { Same(a, b) },
			func() { Same(a, a) },
			func() { Join(a) },
			func() { Join(a, b) },
			func() { Join(rows...) },
			func() { Minus(a, b) },
			func() { Minus(b, a) },
			func() { Minus(a, nil) },
			func() { Keys(a) },
		} {
			call()
			if !slices.Equal(whole(a), wasA) || !slices.Equal(whole(b), wasB) {
				t.Error(i, whole(a), whole(b))
			}
		}
		for i, l := range whole(rows) {
			if want := []row{a, b, a, nil, nil}[i]; !slices.Equal(l, want) || (l == nil) != (want == nil) {
				t.Error(i, l)
			}
		}
	}
}

// What is written into an answer, the room behind its end too, is seen in nothing that was handed in and in no other answer; nor the other way round.
func TestAnswersAreNew(t *testing.T) {
	// rows that are in order already, of which a call might be led to answer the row itself
	for _, x := range []struct{ a, b row }{
		{recs(p{1, 6}, p{2, 5}, p{2, 5}), recs(p{2, 5}, p{3, 7})},
		{recs(p{1, 6}), row{}},
		{row{}, recs(p{1, 6}, p{1, 7})},
		{recs(p{3, 0}, p{1, 0}), recs(p{1, 0}, p{0, 0})},
	} {
		a, b := spare(x.a), spare(x.b)
		wasA, wasB := slices.Clone(whole(a)), slices.Clone(whole(b))
		answers := []row{
			Sort(a), Sort(a), Join(a), Join(a), Join(a, b), Join(nil, b), Join(a, nil), Join(b, row{}),
			Minus(a, b), Minus(a, nil), Minus(a, nil), Minus(b, a), Minus(b, row{}),
		}
		kept := []row{}
		for _, l := range answers {
			kept = append(kept, slices.Clone(l))
		}
		for i, l := range answers {
			for j := range whole(l) {
				whole(l)[j] = api.Rec{Key: 77, Val: i}
			}
			if !slices.Equal(whole(a), wasA) || !slices.Equal(whole(b), wasB) {
				t.Error(i, whole(a), whole(b))
			}
			for k := i + 1; k < len(answers); k++ {
				if !slices.Equal(answers[k], kept[k]) {
					t.Error(i, k, answers[k])
				}
			}
		}
	}
}

func TestAnswersStay(t *testing.T) {
	a, b := spare(recs(p{1, 6}, p{2, 5}, p{2, 5})), spare(recs(p{2, 5}, p{3, 7}))
	answers := []row{Sort(a), Join(a), Join(a, b), Minus(a, nil), Minus(a, b)}
	keys := Keys(a)
	for _, l := range []row{a, b} {
		for i := range whole(l) {
			whole(l)[i] = api.Rec{Key: 55, Val: 55}
		}
	}
	for i, want := range []row{
		recs(p{1, 6}, p{2, 5}, p{2, 5}),
		recs(p{1, 6}, p{2, 5}, p{2, 5}),
		recs(p{1, 6}, p{2, 5}, p{2, 5}, p{2, 5}, p{3, 7}),
		recs(p{1, 6}, p{2, 5}, p{2, 5}),
		recs(p{1, 6}, p{2, 5}),
	} {
		if !slices.Equal(answers[i], want) {
			t.Error(i, answers[i])
		}
	}
	if !slices.Equal(keys, []int{1, 2}) {
		t.Error(keys)
	}
	other := Keys(recs(p{1, 0}, p{2, 0}))
	for i := range whole(keys) {
		whole(keys)[i] = 44
	}
	if !slices.Equal(other, []int{1, 2}) {
		t.Error(other)
	}
}

// R6: the same arguments, the same answer, each time anew.
func TestSameCallsSameAnswers(t *testing.T) {
	a, b := scattered(120, 13), scattered(90, 14)
	sorted, joined, left, keys := Sort(a), Join(a, b), Minus(a, b), Keys(a)
	for i := range 20 {
		if !slices.Equal(Sort(a), sorted) || !slices.Equal(Join(a, b), joined) || !slices.Equal(Minus(a, b), left) || !slices.Equal(Keys(a), keys) {
			t.Error(i)
		}
	}
}
