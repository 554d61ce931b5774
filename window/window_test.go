package window

import (
	"math"
	"slices"
	"testing"
)

// The greatest width and the greatest epoch, written out, so that a bound that is another one is found.
const (
	widest = 20
	latest = 1048576
)

// wrong are numbers that may be none of a, b, k and an epoch.
func wrong() []int {
	return []int{-1, -2, -20, -latest, latest + 1, latest + 2, 1 << 40, -1 << 40, math.MaxInt - 20, math.MaxInt - 1, math.MaxInt, math.MinInt, math.MinInt + 1, math.MinInt + 20}
}

// eachPair hands each a and b that may be to see.
func eachPair(see func(a, b int)) {
	for a := 1; a <= widest; a++ {
		for b := 1; b <= a; b++ {
			see(a, b)
		}
	}
}

// someEpochs are all of the first ones, till long behind the end of the first windows, all of the last ones, and some between.
func someEpochs() []int {
	var epochs []int
	for e := 0; e <= 130; e++ {
		epochs = append(epochs, e)
	}
	for e := 997; e < latest-50; e = e*2 + 3 {
		epochs = append(epochs, e, e+1, e+2, e+19, e+20)
	}
	for e := latest - 50; e <= latest; e++ {
		epochs = append(epochs, e)
	}
	return epochs
}

// windowsOf is P7.2 word by word: of each window about the epoch, whether the epoch is from its first one to its last one.
func windowsOf(a, b, epoch int) (numbers, ends []int) {
	for k := max(epoch/b-widest-1, 0); k <= epoch/b+widest+1; k++ {
		if b*k <= epoch && epoch <= b*k+a-1 {
			numbers = append(numbers, k)
			ends = append(ends, b*k+a-1)
		}
	}
	return numbers, ends
}

// P7.1

func TestMay(t *testing.T) {
	for i, x := range []struct {
		a, b int
		want bool
	}{
		{4, 2, true}, {3, 3, true}, {5, 2, true}, {1, 1, true},
		{20, 1, true}, {20, 19, true}, {20, 20, true}, {20, 21, false}, {20, 0, false}, {20, -1, false},
		{21, 1, false}, {21, 2, false}, {21, 20, false}, {21, 21, false}, {22, 1, false},
		{19, 19, true}, {19, 20, false},
		{0, 0, false}, {0, 1, false}, {0, -1, false}, {-1, 1, false}, {-1, -1, false}, {-1, -2, false}, {-3, -4, false}, {-20, -20, false},
		{1, 0, false}, {1, 2, false}, {1, -1, false}, {2, 3, false}, {3, 4, false}, {4, 0, false}, {4, -2, false}, {4, 5, false},
		{math.MaxInt, 1, false}, {math.MaxInt, 20, false}, {math.MaxInt, math.MaxInt, false}, {math.MaxInt, math.MinInt, false},
		{math.MinInt, 1, false}, {math.MinInt, math.MinInt, false}, {math.MinInt, math.MaxInt, false},
		{1, math.MaxInt, false}, {20, math.MaxInt, false}, {1, math.MinInt, false}, {20, math.MinInt, false},
	} {
		if May(x.a, x.b) != x.want {
			t.Error(i, x)
		}
	}
}

func TestMayOfAllNumbers(t *testing.T) {
	many := 0
	for a := -30; a <= 50; a++ {
		for b := -30; b <= 50; b++ {
			want := a >= 1 && a <= widest && b >= 1 && b <= a
			if May(a, b) != want {
				t.Error(a, b)
			}
			if May(a, b) {
				many++
			}
		}
	}
	if many != 210 {
		t.Error(many)
	}
}

func TestFirst(t *testing.T) {
	for i, x := range []struct{ b, k, want int }{
		{2, 3, 6}, {3, 1, 3}, {1, 9, 9}, {7, 0, 0}, {7, 1, 7}, {13, 11, 143},
		{1, 0, 0}, {1, 1, 1}, {1, latest, latest}, {1, latest - 1, latest - 1}, {1, latest + 1, -1}, {1, -1, -1},
		{20, 0, 0}, {20, 1, 20}, {20, latest, 20971520}, {20, latest + 1, -1}, {20, -1, -1},
		{0, 0, -1}, {0, 1, -1}, {0, latest, -1}, {21, 0, -1}, {21, 1, -1}, {21, latest, -1}, {-1, 0, -1}, {-1, 1, -1}, {-20, 1, -1}, {-1, -1, -1},
		{2, math.MaxInt, -1}, {2, math.MinInt, -1}, {math.MaxInt, 0, -1}, {math.MaxInt, 2, -1}, {math.MinInt, 0, -1}, {math.MinInt, 2, -1},
		{math.MinInt, math.MinInt, -1}, {math.MaxInt, math.MaxInt, -1}, {math.MinInt, math.MaxInt, -1}, {math.MaxInt, math.MinInt, -1},
	} {
		if told := First(x.b, x.k); told != x.want {
			t.Error(i, x, told)
		}
	}
}

func TestLast(t *testing.T) {
	for i, x := range []struct{ a, b, k, want int }{
		{4, 2, 3, 9}, {4, 2, 0, 3}, {4, 2, 1, 5}, {4, 2, 2, 7}, {3, 3, 1, 5}, {5, 2, 1, 6}, {1, 1, 9, 9}, {1, 1, 0, 0}, {20, 1, 0, 19}, {20, 20, 0, 19}, {20, 20, 1, 39}, {20, 13, 11, 162},
		{1, 1, latest, latest}, {1, 1, latest + 1, -1}, {1, 1, -1, -1},
		{4, 2, latest, 2097155}, {4, 2, latest + 1, -1}, {4, 2, -1, -1},
		{20, 1, latest, latest + 19}, {20, 20, latest, 20971539}, {20, 20, latest + 1, -1}, {20, 20, -1, -1},
		{0, 0, 0, -1}, {0, 1, 0, -1}, {0, 1, 1, -1}, {-1, 1, 1, -1}, {-1, -1, 1, -1}, {21, 1, 0, -1}, {21, 1, 1, -1}, {21, 20, 1, -1}, {21, 21, 1, -1},
		{4, 0, 0, -1}, {4, 0, 1, -1}, {4, -1, 0, -1}, {4, -2, 1, -1}, {4, 5, 0, -1}, {4, 5, 1, -1}, {2, 4, 1, -1}, {1, 2, 1, -1}, {20, 21, 0, -1}, {20, 21, 1, -1},
		{math.MaxInt, 1, 1, -1}, {math.MinInt, 1, 1, -1}, {4, math.MaxInt, 1, -1}, {4, math.MinInt, 1, -1}, {4, 2, math.MaxInt, -1}, {4, 2, math.MinInt, -1},
		{math.MaxInt, math.MaxInt, math.MaxInt, -1}, {math.MinInt, math.MinInt, math.MinInt, -1},
	} {
		if told := Last(x.a, x.b, x.k); told != x.want {
			t.Error(i, x, told)
		}
	}
}

// First and Last of all numbers about those that may be, and of the least and the greatest ones.
func TestFirstAndLastOfAllNumbers(t *testing.T) {
	sizes := wrong()
	for n := -2; n <= widest+3; n++ {
		sizes = append(sizes, n)
	}
	numbers := append(wrong(), 0, 1, 2, 3, 19, 20, 21, 1000, 52428, 524288, latest-1, latest)
	for _, k := range numbers {
		for _, b := range sizes {
			mayBe := k >= 0 && k <= latest && b >= 1 && b <= widest
			first := -1
			if mayBe {
				first = b * k
			}
			if told := First(b, k); told != first {
				t.Error(b, k, told)
			}
			for _, a := range sizes {
				last := -1
				if mayBe && a >= b && a <= widest {
					last = b*k + a - 1
				}
				if told := Last(a, b, k); told != last {
					t.Error(a, b, k, told)
				}
			}
		}
	}
}

// P7.2

func TestOfAndEnds(t *testing.T) {
	for i, x := range []struct {
		a, b, epoch int
		of, ends    []int
	}{
		// the chapter's examples
		{4, 2, 5, []int{1, 2}, []int{5, 7}},
		{3, 3, 5, []int{1}, []int{5}},
		// the first epochs have fewer windows than later ones
		{4, 2, 0, []int{0}, []int{3}},
		{4, 2, 1, []int{0}, []int{3}},
		{4, 2, 2, []int{0, 1}, []int{3, 5}},
		{4, 2, 3, []int{0, 1}, []int{3, 5}},
		{4, 2, 4, []int{1, 2}, []int{5, 7}},
		{4, 2, 6, []int{2, 3}, []int{7, 9}},
		// a that b does not divide: not each epoch has as many
		{5, 2, 0, []int{0}, []int{4}},
		{5, 2, 2, []int{0, 1}, []int{4, 6}},
		{5, 2, 3, []int{0, 1}, []int{4, 6}},
		{5, 2, 4, []int{0, 1, 2}, []int{4, 6, 8}},
		{5, 2, 5, []int{1, 2}, []int{6, 8}},
		{5, 2, 6, []int{1, 2, 3}, []int{6, 8, 10}},
		{20, 13, 12, []int{0}, []int{19}},
		{20, 13, 13, []int{0, 1}, []int{19, 32}},
		{20, 13, 19, []int{0, 1}, []int{19, 32}},
		{20, 13, 20, []int{1}, []int{32}},
		// windows that touch: a first epoch, a last one, and one beyond each
		{3, 3, 0, []int{0}, []int{2}},
		{3, 3, 2, []int{0}, []int{2}},
		{3, 3, 3, []int{1}, []int{5}},
		{3, 3, 6, []int{2}, []int{8}},
		{20, 20, 19, []int{0}, []int{19}},
		{20, 20, 20, []int{1}, []int{39}},
		// windows that overlap in all but one epoch
		{3, 1, 0, []int{0}, []int{2}},
		{3, 1, 1, []int{0, 1}, []int{2, 3}},
		{3, 1, 2, []int{0, 1, 2}, []int{2, 3, 4}},
		{3, 1, 3, []int{1, 2, 3}, []int{3, 4, 5}},
		{2, 1, 0, []int{0}, []int{1}},
		{2, 1, 1, []int{0, 1}, []int{1, 2}},
		{2, 1, 2, []int{1, 2}, []int{2, 3}},
		// the width 1
		{1, 1, 0, []int{0}, []int{0}},
		{1, 1, 9, []int{9}, []int{9}},
		{1, 1, latest, []int{latest}, []int{latest}},
		// the last epochs: their windows end behind the greatest epoch
		{20, 20, latest, []int{52428}, []int{1048579}},
		{4, 2, latest, []int{524287, 524288}, []int{latest + 1, latest + 3}},
		{2, 1, latest, []int{latest - 1, latest}, []int{latest, latest + 1}},
		{3, 3, latest, []int{349525}, []int{latest + 1}},
	} {
		if told := Of(x.a, x.b, x.epoch); !slices.Equal(told, x.of) {
			t.Error(i, "Of", x, told)
		}
		if told := Ends(x.a, x.b, x.epoch); !slices.Equal(told, x.ends) {
			t.Error(i, "Ends", x, told)
		}
	}
}

// The most windows that an epoch can have.
func TestOfMost(t *testing.T) {
	for _, epoch := range []int{19, 20, 1000, latest - 1, latest} {
		of, ends := Of(20, 1, epoch), Ends(20, 1, epoch)
		if len(of) != 20 || len(ends) != 20 {
			t.Fatal(epoch, of, ends)
		}
		for i := range 20 {
			if of[i] != epoch-19+i || ends[i] != epoch+i {
				t.Error(epoch, of, ends)
			}
		}
	}
}

func TestNoneOfWhatMayNotBe(t *testing.T) {
	for i, x := range [][3]int{
		{0, 0, 5}, {0, 1, 5}, {0, 1, 0}, {-1, 1, 5}, {-1, -1, 5}, {-4, -2, 5}, {21, 1, 5}, {21, 1, 0}, {21, 20, 5}, {21, 21, 5},
		{4, 0, 5}, {4, 0, 0}, {1, 0, 0}, {4, -1, 5}, {4, -2, 0}, {3, 4, 5}, {3, 4, 0}, {1, 2, 0}, {20, 21, 5}, {20, 21, 0},
		{3, 3, -1}, {4, 2, -1}, {1, 1, -1}, {20, 20, -1}, {20, 1, -1}, {3, 3, -2}, {20, 1, -19}, {20, 20, -20},
		{3, 3, latest + 1}, {4, 2, latest + 1}, {1, 1, latest + 1}, {20, 20, latest + 1}, {20, 1, latest + 1}, {20, 20, latest + 20},
		{0, 1, -1}, {21, 22, latest + 1},
	} {
		if told := Of(x[0], x[1], x[2]); len(told) != 0 {
			t.Error(i, "Of", x, told)
		}
		if told := Ends(x[0], x[1], x[2]); len(told) != 0 {
			t.Error(i, "Ends", x, told)
		}
	}
	for _, n := range wrong() {
		for _, x := range [][3]int{{n, 1, 5}, {4, n, 5}, {4, 2, n}, {20, 20, n}, {1, 1, n}, {n, n, 5}, {n, n, n}, {n, 1, 0}, {20, n, 0}} {
			if of, ends := Of(x[0], x[1], x[2]), Ends(x[0], x[1], x[2]); len(of) != 0 || len(ends) != 0 {
				t.Error(x, of, ends)
			}
		}
	}
}

func TestOfAndEndsOfAllPairs(t *testing.T) {
	epochs := someEpochs()
	eachPair(func(a, b int) {
		for _, epoch := range epochs {
			of, ends := windowsOf(a, b, epoch)
			if told := Of(a, b, epoch); !slices.Equal(told, of) {
				t.Error("Of", a, b, epoch, told, of)
			}
			if told := Ends(a, b, epoch); !slices.Equal(told, ends) {
				t.Error("Ends", a, b, epoch, told, ends)
			}
		}
	})
}

func TestAnswersRise(t *testing.T) {
	epochs := someEpochs()
	eachPair(func(a, b int) {
		for _, epoch := range epochs {
			for _, l := range [][]int{Of(a, b, epoch), Ends(a, b, epoch)} {
				for i := 1; i < len(l); i++ {
					if l[i] <= l[i-1] {
						t.Error(a, b, epoch, l)
					}
				}
			}
		}
	})
}

// An epoch is in a window just if it is from its First to its Last; and Ends are the Lasts.
func TestInWindowJustBetweenFirstAndLast(t *testing.T) {
	epochs := someEpochs()
	eachPair(func(a, b int) {
		for _, epoch := range epochs {
			of, ends := Of(a, b, epoch), Ends(a, b, epoch)
			if len(of) != len(ends) {
				t.Fatal(a, b, epoch, of, ends)
			}
			for i, k := range of {
				if ends[i] != Last(a, b, k) {
					t.Error(a, b, epoch, of, ends)
				}
			}
			for k := max(epoch/b-25, 0); k <= epoch/b+25; k++ {
				if k > latest {
					break
				}
				between := First(b, k) <= epoch && epoch <= Last(a, b, k)
				if slices.Contains(of, k) != between {
					t.Error(a, b, epoch, k, of)
				}
			}
		}
	})
}

// Of each window: its first epoch and its last one have it, the ones beyond them have not.
func TestEdgesOfWindows(t *testing.T) {
	eachPair(func(a, b int) {
		for _, k := range []int{0, 1, 2, 3, 17, 1000, (latest - a) / b, latest / b} {
			first, last := First(b, k), Last(a, b, k)
			for _, x := range []struct {
				epoch int
				want  bool
			}{{first - 1, false}, {first, true}, {last, last <= latest}, {last + 1, false}} {
				if slices.Contains(Of(a, b, x.epoch), k) != x.want || slices.Contains(Ends(a, b, x.epoch), last) != x.want {
					t.Error(a, b, k, x)
				}
			}
		}
	})
}

// P7.3

func TestEachEpochIsInSomeWindow(t *testing.T) {
	epochs := someEpochs()
	eachPair(func(a, b int) {
		most, reached := (a+b-1)/b, 0
		for _, epoch := range epochs {
			many := len(Of(a, b, epoch))
			if many < 1 || many > most || len(Ends(a, b, epoch)) != many {
				t.Error(a, b, epoch, many)
			}
			if a == b && many != 1 {
				t.Error(a, b, epoch, many)
			}
			reached = max(reached, many)
		}
		if reached != most {
			t.Error(a, b, reached)
		}
	})
}

// All epochs that there are, of a few windows that overlap, that touch, and whose width the step does not divide.
func TestAllEpochs(t *testing.T) {
	for _, x := range [][2]int{{1, 1}, {4, 2}, {7, 3}, {20, 20}, {20, 13}} {
		a, b := x[0], x[1]
		for epoch := range latest + 1 {
			of, ends := windowsOf(a, b, epoch)
			if !slices.Equal(Of(a, b, epoch), of) || !slices.Equal(Ends(a, b, epoch), ends) || len(of) == 0 {
				t.Fatal(a, b, epoch)
			}
		}
	}
}

// A window has just a epochs, one behind the other: counted by asking each epoch about it.
func TestWindowHasJustItsEpochs(t *testing.T) {
	eachPair(func(a, b int) {
		for _, k := range []int{0, 1, 2, 9, 52000} {
			many := 0
			for epoch := b*k - 30; epoch <= b*k+50; epoch++ {
				if slices.Contains(Of(a, b, epoch), k) {
					many++
				}
			}
			if many != a || Last(a, b, k)-First(b, k)+1 != a {
				t.Error(a, b, k, many)
			}
		}
		if Last(a, b, latest)-First(b, latest)+1 != a {
			t.Error(a, b)
		}
	})
}

// R1

func TestEveryCallEnds(t *testing.T) {
	numbers := append(wrong(), 0, 1, 2, 19, 20, 21, latest-1, latest)
	for _, x := range numbers {
		for _, y := range numbers {
			May(x, y)
			First(x, y)
			for _, z := range numbers {
				Last(x, y, z)
				Of(x, y, z)
				Ends(x, y, z)
			}
		}
	}
}

// R6: the same arguments, the same answer, each time anew, whatever was asked between.
func TestSameCallsSameAnswers(t *testing.T) {
	for range 3 {
		eachPair(func(a, b int) {
			of, ends := windowsOf(a, b, 77)
			if !slices.Equal(Of(a, b, 77), of) || !slices.Equal(Ends(a, b, 77), ends) || Last(a, b, 7) != 7*b+a-1 || First(b, 7) != 7*b || !May(a, b) {
				t.Error(a, b)
			}
			Of(a, 0, 77)
			Ends(a, b, -1)
		})
	}
}

// R7: what is written into an answer, the room behind its end too, is seen in no other one.
func TestAnswersAreNew(t *testing.T) {
	for _, x := range [][3]int{{4, 2, 5}, {20, 1, 100}, {1, 1, 9}, {5, 2, 4}, {20, 20, latest}} {
		ofWant, endsWant := windowsOf(x[0], x[1], x[2])
		var answers, want [][]int
		for range 3 {
			answers = append(answers, Of(x[0], x[1], x[2]), Ends(x[0], x[1], x[2]))
			want = append(want, ofWant, endsWant)
		}
		for i, told := range answers {
			whole := told[:cap(told)]
			for j := range whole {
				whole[j] = -7
			}
			for k := i + 1; k < len(answers); k++ {
				if !slices.Equal(answers[k], want[k]) {
					t.Error(x, i, k, answers[k])
				}
			}
		}
		if !slices.Equal(Of(x[0], x[1], x[2]), ofWant) || !slices.Equal(Ends(x[0], x[1], x[2]), endsWant) {
			t.Error(x)
		}
	}
}
