package fn

import (
	"math"
	"slices"
	"testing"

	"meander/api"
	"meander/bag"
)

// row is records, written short.
type row = []api.Rec

// p is a key and a value, as recs takes them.
type p = [2]int

func recs(l ...p) row {
	made := row{}
	for _, x := range l {
		made = append(made, api.Rec{Key: x[0], Val: x[1]})
	}
	return made
}

// most is the greatest number that may be, written out, so that a bound that is another one is found.
const most = 1099511627776

// someNumbers are numbers that may be of a record: small ones, ones about the bounds of b, and about those of numbers.
func someNumbers() []int {
	return []int{
		-most, -most + 1, -most + 999, -most + 1000, -most + 1001, -most/1000 - 1, -most / 1000, -most/1000 + 1,
		-1001, -1000, -999, -7, -6, -5, -4, -3, -2, -1, 0, 1, 2, 3, 4, 5, 6, 7, 999, 1000, 1001,
		most/1000 - 1, most / 1000, most/1000 + 1, most - 1001, most - 1000, most - 999, most - 1, most,
	}
}

// someBs are numbers that may be of most a.
func someBs() []int {
	return []int{-1000, -999, -8, -7, -2, -1, 0, 1, 2, 3, 4, 7, 8, 257, 999, 1000}
}

// wrongBs are numbers that may be of no a.
func wrongBs() []int {
	return []int{-1001, 1001, -1002, 1002, -most, most, math.MinInt, math.MinInt + 1, math.MaxInt}
}

// wrongRecs are records that may not be, of which nothing is promised but that a call ends.
func wrongRecs() row {
	wrong := []int{most + 1, -most - 1, math.MaxInt, math.MinInt}
	l := row{}
	for _, x := range wrong {
		for _, y := range append([]int{0, -1}, wrong...) {
			l = append(l, api.Rec{Key: x, Val: y}, api.Rec{Key: y, Val: x})
		}
	}
	return l
}

// smallRows are all rows of up to many of five records, of three keys.
func smallRows(many int) []row {
	few := recs(p{0, 0}, p{-1, 5}, p{2, -7}, p{2, 5}, p{2, most})
	rows, last := []row{nil}, []row{{}}
	for range many {
		var longer []row
		for _, l := range last {
			for _, r := range few {
				longer = append(longer, append(slices.Clone(l), r))
			}
		}
		rows, last = append(rows, longer...), longer
	}
	return rows
}

// scattered is a long row of a rule that scatters it over few keys.
func scattered(many int, seed uint32) row {
	l := row{}
	next := func() int {
		seed = seed*1664525 + 1013904223
		return int(seed>>8) % 1000
	}
	for range many {
		l = append(l, api.Rec{Key: next()%9 - 4, Val: next() - 500})
	}
	return l
}

// within tells what held means, word by word.
func within(n int) int {
	if n < -most {
		return -most
	}
	if n > most {
		return most
	}
	return n
}

// isMod tells whether rest is x mod b, by what mod means alone: 0 to b - 1, and x is it with some whole b.
func isMod(rest, x, b int) bool {
	return rest >= 0 && rest < b && (x-rest)%b == 0
}

// P6.1

// mayWords is P6.1 word by word, of Map (last 5) and of Filter (last 4).
func mayWords(a, b, last int) bool {
	if a < 1 || a > last || b < -1000 || b > 1000 {
		return false
	}
	return a != 3 || b >= 1
}

func TestMayMap(t *testing.T) {
	for i, x := range []struct {
		a, b int
		want bool
	}{
		{1, 0, true}, {2, 7, true}, {3, 7, true}, {4, -7, true}, {5, 7, true},
		{0, 0, false}, {6, 0, false}, {-1, 0, false}, {0, 1, false}, {6, 1, false}, {-1, 1, false},
		{1, -1000, true}, {1, 1000, true}, {1, -1001, false}, {1, 1001, false},
		{2, -1000, true}, {2, 1000, true}, {2, -1001, false}, {2, 1001, false},
		{4, -1000, true}, {4, 1000, true}, {4, -1001, false}, {4, 1001, false},
		{5, -1000, true}, {5, 1000, true}, {5, -1001, false}, {5, 1001, false},
		{3, 1, true}, {3, 1000, true}, {3, 0, false}, {3, -1, false}, {3, -1000, false}, {3, -1001, false}, {3, 1001, false},
		{math.MaxInt, 1, false}, {math.MinInt, 1, false}, {1, math.MaxInt, false}, {1, math.MinInt, false}, {3, math.MaxInt, false},
		{math.MinInt, math.MinInt, false}, {math.MaxInt, math.MaxInt, false},
	} {
		if MayMap(x.a, x.b) != x.want {
			t.Error(i, x)
		}
	}
}

func TestMayFilter(t *testing.T) {
	for i, x := range []struct {
		a, b int
		want bool
	}{
		{1, 0, true}, {2, 7, true}, {3, 7, true}, {4, -7, true},
		{0, 0, false}, {5, 0, false}, {6, 0, false}, {-1, 0, false}, {0, 1, false}, {5, 1, false}, {-1, 1, false},
		{1, -1000, true}, {1, 1000, true}, {1, -1001, false}, {1, 1001, false},
		{2, -1000, true}, {2, 1000, true}, {2, -1001, false}, {2, 1001, false},
		{4, -1000, true}, {4, 1000, true}, {4, -1001, false}, {4, 1001, false},
		{3, 1, true}, {3, 1000, true}, {3, 0, false}, {3, -1, false}, {3, -1000, false}, {3, -1001, false}, {3, 1001, false},
		{math.MaxInt, 1, false}, {math.MinInt, 1, false}, {1, math.MaxInt, false}, {1, math.MinInt, false}, {3, math.MaxInt, false},
		{math.MinInt, math.MinInt, false}, {math.MaxInt, math.MaxInt, false},
	} {
		if MayFilter(x.a, x.b) != x.want {
			t.Error(i, x)
		}
	}
}

func TestMayOfAllNumbers(t *testing.T) {
	for a := -3; a <= 9; a++ {
		for b := -1010; b <= 1010; b++ {
			if MayMap(a, b) != mayWords(a, b, 5) {
				t.Error("map", a, b)
			}
			if MayFilter(a, b) != mayWords(a, b, 4) {
				t.Error("filter", a, b)
			}
		}
	}
}

func TestMayReduce(t *testing.T) {
	for a := -5; a <= 10; a++ {
		if want := a == 1 || a == 2 || a == 3 || a == 4; MayReduce(a) != want {
			t.Error(a)
		}
	}
	for _, a := range []int{math.MinInt, -most, most, math.MaxInt} {
		if MayReduce(a) {
			t.Error(a)
		}
	}
}

// P6.2

func TestMap(t *testing.T) {
	for i, x := range []struct {
		a, b    int
		r, want p
	}{
		// the chapter's examples
		{1, 5, p{1, 2}, p{1, 7}},
		{3, 4, p{1, -1}, p{3, -1}},
		{4, 0, p{1, 2}, p{2, 1}},
		// together
		{1, 0, p{3, 4}, p{3, 4}},
		{1, -5, p{3, 4}, p{3, -1}},
		{1, 1000, p{-3, -4}, p{-3, 996}},
		{1, 1, p{9, most - 1}, p{9, most}},
		{1, 2, p{9, most - 1}, p{9, most}},
		{1, 1, p{9, most}, p{9, most}},
		{1, -1, p{9, most}, p{9, most - 1}},
		{1, 1000, p{most, most - 1000}, p{most, most}},
		{1, 1000, p{most, most - 1001}, p{most, most - 1}},
		{1, 1000, p{most, most - 999}, p{most, most}},
		{1, 1000, p{most, most}, p{most, most}},
		{1, -1, p{9, -most + 1}, p{9, -most}},
		{1, -2, p{9, -most + 1}, p{9, -most}},
		{1, -1, p{9, -most}, p{9, -most}},
		{1, 1, p{9, -most}, p{9, -most + 1}},
		{1, -1000, p{-most, -most + 1000}, p{-most, -most}},
		{1, -1000, p{-most, -most + 1001}, p{-most, -most + 1}},
		{1, -1000, p{-most, -most + 999}, p{-most, -most}},
		{1, -1000, p{-most, -most}, p{-most, -most}},
		// times
		{2, 5, p{1, 2}, p{1, 10}},
		{2, -5, p{1, 2}, p{1, -10}},
		{2, -5, p{-1, -2}, p{-1, 10}},
		{2, 0, p{1, most}, p{1, 0}},
		{2, 1, p{1, -most}, p{1, -most}},
		{2, -1, p{1, -most}, p{1, most}},
		{2, -1, p{1, most}, p{1, -most}},
		{2, 8, p{1, most / 8}, p{1, most}},
		{2, -8, p{1, most / 8}, p{1, -most}},
		{2, 8, p{1, -most / 8}, p{1, -most}},
		{2, -8, p{1, -most / 8}, p{1, most}},
		{2, 15, p{1, 73300775185}, p{1, most - 1}},
		{2, -15, p{1, 73300775185}, p{1, -most + 1}},
		{2, 257, p{1, 4278255361}, p{1, most}}, // one beyond: 257 times 4278255361 is 2^40 + 1
		{2, -257, p{1, 4278255361}, p{1, -most}},
		{2, 257, p{1, -4278255361}, p{1, -most}},
		{2, 1000, p{1, most}, p{1, most}},
		{2, 1000, p{1, -most}, p{1, -most}},
		{2, -1000, p{1, most}, p{1, -most}},
		{2, -1000, p{1, -most}, p{1, most}},
		// a key of the value
		{3, 1, p{7, 5}, p{0, 5}},
		{3, 1, p{7, -5}, p{0, -5}},
		{3, 4, p{7, 5}, p{1, 5}},
		{3, 4, p{7, 4}, p{0, 4}},
		{3, 4, p{7, 3}, p{3, 3}},
		{3, 4, p{7, 0}, p{0, 0}},
		{3, 4, p{7, -3}, p{1, -3}},
		{3, 4, p{7, -4}, p{0, -4}},
		{3, 4, p{7, -5}, p{3, -5}},
		{3, 1000, p{-7, 999}, p{999, 999}},
		{3, 1000, p{-7, -1}, p{999, -1}},
		{3, 1000, p{-7, most}, p{776, most}},
		{3, 1000, p{-7, -most}, p{224, -most}},
		// places
		{4, 9, p{-3, 4}, p{4, -3}},
		{4, -1000, p{most, -most}, p{-most, most}},
		{4, 1000, p{5, 5}, p{5, 5}},
		// b itself
		{5, 9, p{1, 2}, p{1, 9}},
		{5, 0, p{1, 2}, p{1, 0}},
		{5, -1000, p{most, most}, p{most, -1000}},
		{5, 1000, p{-most, -most}, p{-most, 1000}},
	} {
		r, want := api.Rec{Key: x.r[0], Val: x.r[1]}, api.Rec{Key: x.want[0], Val: x.want[1]}
		if got := Map(x.a, x.b, r); got != want {
			t.Error(i, x, got)
		}
	}
}

func TestMapOfAllPairs(t *testing.T) {
	for _, k := range someNumbers() {
		for _, v := range someNumbers() {
			r := api.Rec{Key: k, Val: v}
			for _, b := range someBs() {
				for a, want := range map[int]api.Rec{
					1: {Key: k, Val: within(v + b)},
					2: {Key: k, Val: within(v * b)},
					4: {Key: v, Val: k},
					5: {Key: k, Val: b},
				} {
					if got := Map(a, b, r); got != want {
						t.Error(a, b, r, got)
					}
				}
				if got := Map(3, b, r); b >= 1 && (!isMod(got.Key, v, b) || got.Val != v) {
					t.Error(3, b, r, got)
				}
			}
		}
	}
}

func TestMapThatMayNotBe(t *testing.T) {
	for _, r := range recs(p{1, 2}, p{0, 0}, p{-3, 4}, p{most, -most}, p{-most, most}) {
		for _, a := range []int{0, 6, -1, 7, math.MinInt, math.MaxInt} {
			for _, b := range append(someBs(), wrongBs()...) {
				if got := Map(a, b, r); got != r {
					t.Error(a, b, r, got)
				}
			}
		}
		for a := 1; a <= 5; a++ {
			for _, b := range wrongBs() {
				if got := Map(a, b, r); got != r {
					t.Error(a, b, r, got)
				}
			}
		}
		for _, b := range []int{0, -1, -2, -999, -1000} {
			if got := Map(3, b, r); got != r {
				t.Error(b, r, got)
			}
		}
	}
}

func TestFilter(t *testing.T) {
	for i, x := range []struct {
		a, b int
		r    p
		want bool
	}{
		{1, 5, p{9, 4}, true}, {1, 5, p{9, 5}, false}, {1, 5, p{9, 6}, false}, {1, 5, p{4, 5}, false}, {1, 5, p{6, 4}, true},
		{1, -5, p{0, -6}, true}, {1, -5, p{0, -5}, false}, {1, -5, p{0, 0}, false},
		{1, 0, p{0, -1}, true}, {1, 0, p{0, 0}, false},
		{1, 1000, p{0, 999}, true}, {1, 1000, p{0, 1000}, false}, {1, -1000, p{0, -1001}, true}, {1, -1000, p{0, -1000}, false},
		{1, 1000, p{0, most}, false}, {1, -1000, p{0, -most}, true},
		{2, 5, p{9, 4}, false}, {2, 5, p{9, 5}, true}, {2, 5, p{9, 6}, true}, {2, 5, p{4, 5}, true}, {2, 5, p{6, 4}, false},
		{2, -5, p{0, -6}, false}, {2, -5, p{0, -5}, true}, {2, -5, p{0, 0}, true},
		{2, 0, p{0, -1}, false}, {2, 0, p{0, 0}, true},
		{2, 1000, p{0, 999}, false}, {2, 1000, p{0, 1000}, true}, {2, -1000, p{0, -1001}, false}, {2, -1000, p{0, -1000}, true},
		{2, 1000, p{0, most}, true}, {2, -1000, p{0, -most}, false},
		{3, 3, p{6, 1}, true}, {3, 3, p{5, 6}, false}, {3, 3, p{0, 1}, true}, {3, 3, p{1, 0}, false}, {3, 3, p{2, 3}, false}, {3, 3, p{3, 2}, true},
		{3, 3, p{-6, 1}, true}, {3, 3, p{-5, 1}, false}, {3, 3, p{-4, 6}, false}, {3, 3, p{-3, 1}, true},
		{3, 1, p{7, 7}, true}, {3, 1, p{-7, 7}, true}, {3, 1, p{0, 0}, true},
		{3, 1000, p{1000, 1}, true}, {3, 1000, p{-1000, 1}, true}, {3, 1000, p{999, 0}, false}, {3, 1000, p{-1, 0}, false},
		{3, 8, p{most, 1}, true}, {3, 8, p{-most, 1}, true}, {3, 1000, p{most, 0}, false}, {3, 1000, p{-most, 0}, false},
		{4, 0, p{0, 0}, true}, {4, 1000, p{5, -5}, true}, {4, -1000, p{most, -most}, true}, {4, 7, p{-most, most}, true},
	} {
		if got := Filter(x.a, x.b, api.Rec{Key: x.r[0], Val: x.r[1]}); got != x.want {
			t.Error(i, x)
		}
	}
}

func TestFilterOfAllPairs(t *testing.T) {
	for _, k := range someNumbers() {
		for _, v := range someNumbers() {
			r := api.Rec{Key: k, Val: v}
			for _, b := range someBs() {
				if Filter(1, b, r) != (v < b) || Filter(2, b, r) == (v < b) || !Filter(4, b, r) {
					t.Error(b, r)
				}
				if b >= 1 && Filter(3, b, r) != isMod(0, k, b) {
					t.Error(b, r)
				}
			}
		}
	}
}

func TestFilterThatMayNotBe(t *testing.T) {
	for _, r := range recs(p{0, 0}, p{6, -5000}, p{-6, 5000}, p{most, -most}, p{-most, most}) {
		for _, a := range []int{0, 5, 6, -1, math.MinInt, math.MaxInt} {
			for _, b := range append(someBs(), wrongBs()...) {
				if Filter(a, b, r) {
					t.Error(a, b, r)
				}
			}
		}
		for a := 1; a <= 4; a++ {
			for _, b := range wrongBs() {
				if Filter(a, b, r) {
					t.Error(a, b, r)
				}
			}
		}
		for _, b := range []int{0, -1, -2, -3, -999, -1000} {
			if Filter(3, b, r) {
				t.Error(b, r)
			}
		}
	}
}

// P6.3

func TestReduce(t *testing.T) {
	mixed := recs(p{2, 6}, p{1, 5}, p{-3, 0}, p{1, -7}, p{2, 6}, p{1, 3}, p{0, -9}, p{0, -4})
	for i, x := range []struct {
		a       int
		l, want row
	}{
		// the chapter's example
		{2, recs(p{1, 5}, p{2, 6}, p{1, 7}), recs(p{1, 12}, p{2, 6})},
		{1, recs(p{1, 5}, p{2, 6}, p{1, 7}), recs(p{1, 2}, p{2, 1})},
		{3, recs(p{1, 5}, p{2, 6}, p{1, 7}), recs(p{1, 7}, p{2, 6})},
		{4, recs(p{1, 5}, p{2, 6}, p{1, 7}), recs(p{1, 5}, p{2, 6})},
		// one record
		{1, recs(p{4, 9}), recs(p{4, 1})},
		{2, recs(p{4, 9}), recs(p{4, 9})},
		{3, recs(p{4, 9}), recs(p{4, 9})},
		{4, recs(p{4, 9}), recs(p{4, 9})},
		{1, recs(p{-4, -9}), recs(p{-4, 1})},
		{2, recs(p{-4, -9}), recs(p{-4, -9})},
		{3, recs(p{-4, -9}), recs(p{-4, -9})},
		{4, recs(p{-4, -9}), recs(p{-4, -9})},
		{1, recs(p{0, 0}), recs(p{0, 1})},
		{2, recs(p{0, 0}), recs(p{0, 0})},
		// the same record more than once counts as often
		{1, recs(p{4, 9}, p{4, 9}, p{4, 9}), recs(p{4, 3})},
		{2, recs(p{4, 9}, p{4, 9}, p{4, 9}), recs(p{4, 27})},
		{3, recs(p{4, 9}, p{4, 9}, p{4, 9}), recs(p{4, 9})},
		{4, recs(p{4, 9}, p{4, 9}, p{4, 9}), recs(p{4, 9})},
		// keys that do not stand in order, below 0 too
		{1, mixed, recs(p{-3, 1}, p{0, 2}, p{1, 3}, p{2, 2})},
		{2, mixed, recs(p{-3, 0}, p{0, -13}, p{1, 1}, p{2, 12})},
		{3, mixed, recs(p{-3, 0}, p{0, -4}, p{1, 5}, p{2, 6})},
		{4, mixed, recs(p{-3, 0}, p{0, -9}, p{1, -7}, p{2, 6})},
		// values below 0 alone
		{3, recs(p{1, -5}, p{1, -2}, p{1, -9}), recs(p{1, -2})},
		{4, recs(p{1, -5}, p{1, -2}, p{1, -9}), recs(p{1, -9})},
		{4, recs(p{1, 5}, p{1, 2}, p{1, 9}), recs(p{1, 2})},
		{3, recs(p{1, -most}, p{1, -most}), recs(p{1, -most})},
		{4, recs(p{1, most}, p{1, most}), recs(p{1, most})},
		{3, recs(p{most, -most}, p{-most, most}, p{most, most}, p{-most, -most}), recs(p{-most, most}, p{most, most})},
		{4, recs(p{most, -most}, p{-most, most}, p{most, most}, p{-most, -most}), recs(p{-most, -most}, p{most, -most})},
	} {
		if got := Reduce(x.a, x.l); !slices.Equal(got, x.want) {
			t.Error(i, got)
		}
	}
}

// The whole sum is held, not what it is on its way, in whatever order its parts stand.
func TestReduceHolds(t *testing.T) {
	for i, x := range []struct {
		vals []int
		want int
	}{
		{[]int{most - 1, 1}, most},
		{[]int{most - 1, 2}, most},
		{[]int{most, 1}, most},
		{[]int{most, -1}, most - 1},
		{[]int{most, most}, most},
		{[]int{-most + 1, -1}, -most},
		{[]int{-most + 1, -2}, -most},
		{[]int{-most, -1}, -most},
		{[]int{-most, 1}, -most + 1},
		{[]int{-most, -most}, -most},
		{[]int{most, -most}, 0},
		{[]int{most, most, -most}, most},
		{[]int{most, most, -most, -most}, 0},
		{[]int{most, most, -most, -7}, most - 7},
		{[]int{-most, -most, most, 7}, -most + 7},
		{[]int{most, 5, -most, 4}, 9},
		{[]int{-most, -5, most, -4}, -9},
		{[]int{most, most, most, -most, 1}, most},
		{[]int{-most, -most, -most, most, -1}, -most},
	} {
		slices.Sort(x.vals)
		orders(x.vals, func(vals []int) {
			l := row{}
			for _, v := range vals {
				l = append(l, api.Rec{Key: 3, Val: v})
			}
			if got := Reduce(2, l); !slices.Equal(got, recs(p{3, x.want})) {
				t.Error(i, vals, got)
			}
		})
	}
}

// As many as the chapter asks for, of the greatest values: the sum is 2^60 on its way.
func TestReduceOfMost(t *testing.T) {
	const many = 1 << 20
	l := make(row, many)
	for _, x := range []struct{ first, second, sum, greatest, least int }{
		{most, most, most, most, most},
		{-most, -most, -most, -most, -most},
		{most, -most, 0, most, -most},
	} {
		for i := range l {
			l[i] = api.Rec{Key: 5, Val: x.first}
			if i >= many/2 {
				l[i].Val = x.second
			}
		}
		for a, want := range map[int]int{1: many, 2: x.sum, 3: x.greatest, 4: x.least} {
			if got := Reduce(a, l); !slices.Equal(got, recs(p{5, want})) {
				t.Error(a, x, got)
			}
		}
	}
	for i := range l {
		l[i] = api.Rec{Key: many - i, Val: i}
	}
	got := Reduce(2, l)
	if len(got) != many || got[0] != (api.Rec{Key: 1, Val: many - 1}) || got[many-1] != (api.Rec{Key: many, Val: 0}) {
		t.Error(len(got))
	}
}

func TestReduceOfNone(t *testing.T) {
	for a := -2; a <= 7; a++ {
		for _, l := range []row{nil, {}, make(row, 0, 4)} {
			if got := Reduce(a, l); len(got) != 0 {
				t.Error(a, got)
			}
		}
	}
}

func TestReduceThatMayNotBe(t *testing.T) {
	for _, a := range []int{0, 5, -1, 6, -2, most, math.MinInt, math.MaxInt} {
		for _, l := range []row{recs(p{1, 5}), recs(p{1, 5}, p{2, 6}, p{1, 7}), recs(p{0, 0})} {
			if got := Reduce(a, l); len(got) != 0 {
				t.Error(a, l, got)
			}
		}
	}
}

// reduced is P6.3 word by word.
func reduced(a int, l row) row {
	many, sum, greatest, least := map[int]int{}, map[int]int{}, map[int]int{}, map[int]int{}
	keys := []int{}
	for _, r := range l {
		if many[r.Key] == 0 {
			keys = append(keys, r.Key)
			greatest[r.Key], least[r.Key] = r.Val, r.Val
		}
		many[r.Key]++
		sum[r.Key] += r.Val
		greatest[r.Key] = max(greatest[r.Key], r.Val)
		least[r.Key] = min(least[r.Key], r.Val)
	}
	slices.Sort(keys)
	made := row{}
	for _, k := range keys {
		made = append(made, api.Rec{Key: k, Val: []int{0, many[k], within(sum[k]), greatest[k], least[k]}[a]})
	}
	return made
}

func TestReduceOfManyRows(t *testing.T) {
	for _, l := range append(smallRows(5), scattered(100, 3), scattered(1000, 4)) {
		for a := 1; a <= 4; a++ {
			if got := Reduce(a, l); !slices.Equal(got, reduced(a, l)) {
				t.Error(a, l, got)
			}
		}
	}
}

func TestRoute(t *testing.T) {
	for i, x := range []struct{ key, many, want int }{
		{0, 4, 0}, {1, 4, 1}, {3, 4, 3}, {4, 4, 0}, {9, 4, 1},
		{-1, 4, 3}, {-3, 4, 1}, {-4, 4, 0}, {-5, 4, 3},
		{7, 1, 0}, {-7, 1, 0}, {0, 1, 0},
		{7, 0, 0}, {-7, 0, 0}, {7, -1, 0}, {-7, -1, 0}, {7, -4, 0}, {-7, -4, 0}, {7, math.MinInt, 0},
		{15, 16, 15}, {16, 16, 0}, {-1, 16, 15}, {-16, 16, 0}, {-17, 16, 15},
		{most, 7, 2}, {-most, 7, 5}, {most, 16, 0}, {-most, 16, 0},
		{most, most, 0}, {5, most, 5}, {-5, most, most - 5},
		{math.MaxInt, math.MaxInt, 0}, {math.MinInt, math.MaxInt, math.MaxInt - 1}, {-1, math.MaxInt, math.MaxInt - 1},
		{math.MinInt, 1, 0}, {math.MinInt, -1, 0}, {math.MinInt, 16, 0}, {math.MinInt + 1, 16, 1}, {math.MaxInt, 16, 15},
	} {
		if got := Route(x.key, x.many); got != x.want {
			t.Error(i, x, got)
		}
	}
}

func TestRouteOfManyKeys(t *testing.T) {
	for many := -3; many <= 40; many++ {
		for _, key := range someNumbers() {
			got := Route(key, many)
			if many < 1 && got != 0 || many >= 1 && !isMod(got, key, many) {
				t.Error(key, many, got)
			}
		}
	}
}

// P6.4

func TestWhatComesMayBe(t *testing.T) {
	numbers := someNumbers()
	for _, k := range numbers {
		for _, v := range numbers {
			for a := -1; a <= 7; a++ {
				for _, b := range append(someBs(), wrongBs()...) {
					if got := Map(a, b, api.Rec{Key: k, Val: v}); !bag.May(got) {
						t.Error(a, b, k, v, got)
					}
				}
			}
		}
	}
	all := row{}
	for _, k := range numbers {
		for _, v := range numbers {
			all = append(all, api.Rec{Key: k, Val: v})
		}
	}
	high, low := recs(p{most, most}, p{most, most}, p{most, 1}), recs(p{-most, -most}, p{-most, -most}, p{-most, -1})
	for a := -1; a <= 6; a++ {
		for _, l := range append(smallRows(4), all, high, low) {
			for _, r := range Reduce(a, l) {
				if !bag.May(r) {
					t.Error(a, l, r)
				}
			}
		}
	}
}

// orders hands each order of l to see.
func orders[T any](l []T, see func(l []T)) {
	var from func(i int)
	from = func(i int) {
		if i == len(l) {
			see(l)
			return
		}
		for j := i; j < len(l); j++ {
			l[i], l[j] = l[j], l[i]
			from(i + 1)
			l[i], l[j] = l[j], l[i]
		}
	}
	from(0)
}

func TestReduceInAnyOrder(t *testing.T) {
	for _, l := range []row{
		recs(p{1, 6}, p{2, 5}, p{1, 6}, p{1, -5}, p{-3, 0}, p{2, -most}),
		recs(p{0, most}, p{0, most}, p{0, -most}, p{1, -1}, p{1, -2}, p{0, 3}),
		recs(p{5, 1}, p{4, 1}, p{3, 1}, p{2, 1}, p{1, 1}, p{0, 1}),
	} {
		for a := 1; a <= 4; a++ {
			want := reduced(a, l)
			orders(slices.Clone(l), func(x row) {
				if got := Reduce(a, x); !slices.Equal(got, want) {
					t.Error(a, x, got)
				}
			})
		}
	}
	long := scattered(300, 5)
	back := slices.Clone(long)
	slices.Reverse(back)
	for a := 1; a <= 4; a++ {
		if !slices.Equal(Reduce(a, long), Reduce(a, back)) || !slices.Equal(Reduce(a, long), Reduce(a, bag.Sort(long))) {
			t.Error(a)
		}
	}
}

// Records that share a key go one way, whatever their values and whatever was asked between.
func TestSameKeysSameRoute(t *testing.T) {
	for many := -1; many <= 16; many++ {
		first := map[int]int{}
		for range 2 {
			for _, r := range scattered(200, 6) {
				at := Route(r.Key, many)
				if was, found := first[r.Key]; found && was != at {
					t.Error(many, r, was, at)
				}
				first[r.Key] = at
			}
		}
	}
}

// R1

func TestEveryCallEnds(t *testing.T) {
	numbers := append(someBs(), wrongBs()...)
	as := []int{math.MinInt, -1, 0, 1, 2, 3, 4, 5, 6, math.MaxInt}
	for _, a := range as {
		for _, b := range numbers {
			MayMap(a, b)
			MayFilter(a, b)
			for _, r := range wrongRecs() {
				Map(a, b, r)
				Filter(a, b, r)
				Route(r.Key, b)
				Route(b, r.Key)
			}
		}
		MayReduce(a)
		Reduce(a, wrongRecs())
	}
}

// R6: the same arguments, the same answer, each time anew.
func TestSameCallsSameAnswers(t *testing.T) {
	l, r := scattered(120, 7), api.Rec{Key: -5, Val: 9}
	for a := 0; a <= 6; a++ {
		told, made, kept := Reduce(a, l), Map(a, 3, r), Filter(a, 3, r)
		for range 10 {
			if !slices.Equal(Reduce(a, l), told) || Map(a, 3, r) != made || Filter(a, 3, r) != kept {
				t.Error(a)
			}
		}
	}
}

// R7

// spare is l with room behind its end, filled with records that are not to change.
func spare(l row) row {
	whole := append(slices.Clone(l), api.Rec{Key: 99, Val: 1}, api.Rec{Key: -99, Val: 2}, api.Rec{Key: 99, Val: 1}, api.Rec{Key: 98, Val: 3})
	return whole[:len(l)]
}

// whole is a list with the room behind its end.
func whole(l row) row { return l[:cap(l)] }

// rowsToKeep are ones in order, of which a call might be led to work in the row itself, and ones that are not.
func rowsToKeep() []row {
	return []row{
		{},
		recs(p{1, 1}),
		recs(p{1, 5}, p{2, 6}),
		recs(p{1, 5}, p{1, 7}, p{2, 6}),
		recs(p{3, 1}, p{2, 5}, p{1, 6}, p{2, 5}, p{0, 0}),
		recs(p{2, most}, p{2, most}, p{-1, 4}),
	}
}

func TestHandedInIsNotChanged(t *testing.T) {
	for _, x := range rowsToKeep() {
		l := spare(x)
		was := slices.Clone(whole(l))
		for a := -1; a <= 6; a++ {
			Reduce(a, l)
			if !slices.Equal(whole(l), was) {
				t.Error(a, x, whole(l))
			}
		}
	}
}

// What is written into an answer, the room behind its end too, is seen in nothing that was handed in and in no other answer.
func TestAnswersAreNew(t *testing.T) {
	for _, x := range rowsToKeep() {
		l := spare(x)
		was := slices.Clone(whole(l))
		answers, kept := []row{}, []row{}
		for _, a := range []int{1, 2, 3, 4, 4, 3, 2, 1} {
			answers = append(answers, Reduce(a, l))
			kept = append(kept, reduced(a, l))
		}
		for i, told := range answers {
			for j := range whole(told) {
				whole(told)[j] = api.Rec{Key: 77, Val: i}
			}
			if !slices.Equal(whole(l), was) {
				t.Error(i, whole(l))
			}
			for k := i + 1; k < len(answers); k++ {
				if !slices.Equal(answers[k], kept[k]) {
					t.Error(i, k, answers[k])
				}
			}
		}
	}
}

// What is written into a row behind the call is not seen in what the call answered.
func TestAnswersStay(t *testing.T) {
	for _, x := range rowsToKeep() {
		for a := 1; a <= 4; a++ {
			l := spare(x)
			told := Reduce(a, l)
			for i := range whole(l) {
				whole(l)[i] = api.Rec{Key: 55, Val: 55}
			}
			if !slices.Equal(told, reduced(a, x)) {
				t.Error(a, x, told)
			}
		}
	}
}
