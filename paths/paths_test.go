package paths

import (
	"cmp"
	"math"
	"slices"
	"testing"

	"meander/api"
	"meander/graph"
	"meander/summary"
	"meander/ts"
	"meander/valid"
)

// The kinds and the bounds, written out, so that another number of one is found.
const (
	input    = 1
	mapped   = 2
	filter   = 3
	concat   = 4
	exchange = 5
	reduce   = 6
	windowed = 7
	enter    = 8
	leave    = 9
	feedback = 10
	capture  = 11
	out      = -1

	mostNodes = 12
	mostEpoch = 1048576
	mostLoop  = 1000
)

type (
	node   = api.Node
	edge   = api.Edge
	loc    = api.Loc
	net    = api.Graph
	time   = api.Time
	sum    = api.Summary
	change = api.Change
)

// at is an input of a node, and the place behind a node is its output.
func at(node, port int) loc { return loc{Node: node, Port: port} }

func behind(node int) loc { return loc{Node: node, Port: out} }

func when(epoch int, l ...int) time {
	x := time{Epoch: epoch, Depth: len(l)}
	copy(x.L[:], l)
	return x
}

func sums(l ...sum) []sum { return l }

func times(l ...time) []time { return l }

func more(l loc, x time, n int) change { return change{Loc: l, Time: x, N: n} }

// pair is an Input, a Capture and an edge.
func pair() net {
	return net{Nodes: []node{{Kind: input}, {Kind: capture}}, Edges: []edge{{From: 0, To: 1}}}
}

// row is nodes one behind the other.
func row() net {
	return net{
		Nodes: []node{{Kind: input}, {Kind: mapped, A: 1, B: 3}, {Kind: filter, A: 1, B: 9}, {Kind: exchange}, {Kind: reduce, A: 2}, {Kind: capture}},
		Edges: []edge{{From: 0, To: 1}, {From: 1, To: 2}, {From: 2, To: 3}, {From: 3, To: 4}, {From: 4, To: 5}},
	}
}

// branch is an Input whose records go three ways, of which two come together again.
func branch() net {
	return net{
		Nodes: []node{{Kind: input}, {Kind: mapped, A: 4}, {Kind: filter, A: 4}, {Kind: concat}, {Kind: capture}, {Kind: exchange}, {Kind: windowed, A: 4, B: 2}, {Kind: capture}},
		Edges: []edge{{From: 0, To: 2}, {From: 0, To: 1}, {From: 1, To: 3, Port: 1}, {From: 0, To: 5}, {From: 2, To: 3}, {From: 3, To: 4}, {From: 5, To: 6}, {From: 6, To: 7}},
	}
}

// loop is a graph with a loop from the Feedback 3 back to the Concat 2.
func loop() net {
	return net{
		Nodes: []node{{Kind: input}, {Kind: enter, Depth: 1}, {Kind: concat, Depth: 1}, {Kind: feedback, A: 2, Depth: 1}, {Kind: leave}, {Kind: capture}},
		Edges: []edge{{From: 0, To: 1}, {From: 1, To: 2}, {From: 2, To: 3}, {From: 3, To: 2, Port: 1}, {From: 2, To: 4}, {From: 4, To: 5}},
	}
}

// loops is a loop in a loop: the inner one from 6 back to 4, the outer one from 8 back to 2, so that the inner one is left and entered again in each round.
func loops() net {
	return net{
		Nodes: []node{{Kind: input}, {Kind: enter, Depth: 1}, {Kind: concat, Depth: 1}, {Kind: enter, Depth: 2}, {Kind: concat, Depth: 2}, {Kind: mapped, A: 2, B: 2, Depth: 2}, {Kind: feedback, A: 3, Depth: 2}, {Kind: leave, Depth: 1}, {Kind: feedback, A: 2, Depth: 1}, {Kind: leave}, {Kind: capture}},
		Edges: []edge{{From: 0, To: 1}, {From: 1, To: 2}, {From: 2, To: 3}, {From: 3, To: 4}, {From: 4, To: 5}, {From: 5, To: 6}, {From: 6, To: 4, Port: 1}, {From: 5, To: 7}, {From: 7, To: 8}, {From: 8, To: 2, Port: 1}, {From: 7, To: 9}, {From: 9, To: 10}},
	}
}

// deep is three loops, one in the other: 7 leads back to 6, 9 to 4, and 11 to 2.
func deep() net {
	return net{
		Nodes: []node{{Kind: input}, {Kind: enter, Depth: 1}, {Kind: concat, Depth: 1}, {Kind: enter, Depth: 2}, {Kind: concat, Depth: 2}, {Kind: enter, Depth: 3}, {Kind: concat, Depth: 3}, {Kind: feedback, A: 1, Depth: 3}, {Kind: leave, Depth: 2}, {Kind: feedback, A: 1, Depth: 2}, {Kind: leave, Depth: 1}, {Kind: feedback, A: 1, Depth: 1}},
		Edges: []edge{{From: 0, To: 1}, {From: 1, To: 2}, {From: 2, To: 3}, {From: 3, To: 4}, {From: 4, To: 5}, {From: 5, To: 6}, {From: 6, To: 7}, {From: 7, To: 6, Port: 1}, {From: 6, To: 8}, {From: 8, To: 9}, {From: 9, To: 4, Port: 1}, {From: 8, To: 10}, {From: 10, To: 11}, {From: 11, To: 2, Port: 1}},
	}
}

// straight leads in three deep and out again, with a Feedback at each depth but without a way round.
func straight() net {
	return net{
		Nodes: []node{{Kind: input}, {Kind: enter, Depth: 1}, {Kind: feedback, A: 1, Depth: 1}, {Kind: enter, Depth: 2}, {Kind: feedback, A: 1, Depth: 2}, {Kind: enter, Depth: 3}, {Kind: feedback, A: 1, Depth: 3}, {Kind: leave, Depth: 2}, {Kind: leave, Depth: 1}, {Kind: enter, Depth: 2}, {Kind: leave, Depth: 1}, {Kind: leave}},
		Edges: []edge{{From: 0, To: 1}, {From: 1, To: 2}, {From: 2, To: 3}, {From: 3, To: 4}, {From: 4, To: 5}, {From: 5, To: 6}, {From: 6, To: 7}, {From: 7, To: 8}, {From: 8, To: 9}, {From: 9, To: 10}, {From: 10, To: 11}},
	}
}

// beside is two loops of one Enter, side by side.
func beside() net {
	return net{
		Nodes: []node{{Kind: input}, {Kind: enter, Depth: 1}, {Kind: concat, Depth: 1}, {Kind: feedback, A: 1, Depth: 1}, {Kind: concat, Depth: 1}, {Kind: feedback, A: 2, Depth: 1}, {Kind: leave}, {Kind: leave}, {Kind: concat}, {Kind: capture}},
		Edges: []edge{{From: 0, To: 1}, {From: 1, To: 2}, {From: 2, To: 3}, {From: 3, To: 2, Port: 1}, {From: 1, To: 4, Port: 1}, {From: 4, To: 5}, {From: 5, To: 4}, {From: 2, To: 6}, {From: 4, To: 7}, {From: 6, To: 8, Port: 1}, {From: 7, To: 8}, {From: 8, To: 9}},
	}
}

// again is a loop that is left, and another one that is entered then.
func again() net {
	return net{
		Nodes: []node{{Kind: input}, {Kind: enter, Depth: 1}, {Kind: concat, Depth: 1}, {Kind: feedback, A: 1, Depth: 1}, {Kind: leave}, {Kind: enter, Depth: 1}, {Kind: concat, Depth: 1}, {Kind: feedback, A: 6, Depth: 1}, {Kind: leave}, {Kind: capture}},
		Edges: []edge{{From: 0, To: 1}, {From: 1, To: 2}, {From: 2, To: 3}, {From: 3, To: 2, Port: 1}, {From: 2, To: 4}, {From: 4, To: 5}, {From: 5, To: 6}, {From: 6, To: 7}, {From: 7, To: 6, Port: 1}, {From: 6, To: 8}, {From: 8, To: 9}},
	}
}

// twoWays is a loop with two ways through it: over 4, or over 5 and 6, one more round ahead.
func twoWays() net {
	return net{
		Nodes: []node{{Kind: input}, {Kind: enter, Depth: 1}, {Kind: concat, Depth: 1}, {Kind: feedback, A: 1, Depth: 1}, {Kind: mapped, A: 4, Depth: 1}, {Kind: filter, A: 4, Depth: 1}, {Kind: feedback, A: 2, Depth: 1}, {Kind: concat, Depth: 1}},
		Edges: []edge{{From: 0, To: 1}, {From: 1, To: 2}, {From: 2, To: 5}, {From: 5, To: 6}, {From: 6, To: 7}, {From: 2, To: 4}, {From: 4, To: 7, Port: 1}, {From: 7, To: 3}, {From: 3, To: 2, Port: 1}},
	}
}

// eitherFed leads two deep over two ways: one has a Feedback in the outer loop, the other one in the inner loop, and neither does less than the other.
func eitherFed() net {
	return net{
		Nodes: []node{{Kind: input}, {Kind: enter, Depth: 1}, {Kind: feedback, A: 1, Depth: 1}, {Kind: enter, Depth: 2}, {Kind: enter, Depth: 2}, {Kind: feedback, A: 1, Depth: 2}, {Kind: concat, Depth: 2}, {Kind: leave, Depth: 1}, {Kind: leave}, {Kind: capture}},
		Edges: []edge{{From: 0, To: 1}, {From: 1, To: 2}, {From: 2, To: 3}, {From: 3, To: 6}, {From: 1, To: 4}, {From: 4, To: 5}, {From: 5, To: 6, Port: 1}, {From: 6, To: 7}, {From: 7, To: 8}, {From: 8, To: 9}},
	}
}

// keptOrNot leads from the loop 2 of an outer one on over two ways: one goes round once more in it, the other one leaves it and enters it again.
func keptOrNot() net {
	return net{
		Nodes: []node{{Kind: input}, {Kind: enter, Depth: 1}, {Kind: enter, Depth: 2}, {Kind: feedback, A: 1, Depth: 2}, {Kind: leave, Depth: 1}, {Kind: feedback, A: 1, Depth: 1}, {Kind: enter, Depth: 2}, {Kind: concat, Depth: 2}, {Kind: exchange, Depth: 2}, {Kind: reduce, A: 1, Depth: 2}},
		Edges: []edge{{From: 0, To: 1}, {From: 1, To: 2}, {From: 2, To: 3}, {From: 3, To: 7}, {From: 2, To: 4}, {From: 4, To: 5}, {From: 5, To: 6}, {From: 6, To: 7, Port: 1}, {From: 7, To: 8}, {From: 8, To: 9}},
	}
}

// inAndOut is a loop whose way round enters another one, which has no Feedback, and leaves it again.
func inAndOut() net {
	return net{
		Nodes: []node{{Kind: input}, {Kind: enter, Depth: 1}, {Kind: concat, Depth: 1}, {Kind: enter, Depth: 2}, {Kind: exchange, Depth: 2}, {Kind: leave, Depth: 1}, {Kind: feedback, A: 1, Depth: 1}},
		Edges: []edge{{From: 0, To: 1}, {From: 1, To: 2}, {From: 2, To: 3}, {From: 3, To: 4}, {From: 4, To: 5}, {From: 5, To: 6}, {From: 6, To: 2, Port: 1}},
	}
}

// full is as many nodes as may be, one of them a Feedback, the others Concats, each with both inputs from the node ahead. As each input has just one edge, 24 edges would ask for 12 Concats, which go round without a Feedback: no graph that is accepted has more edges than this.
func full() net {
	g := net{Nodes: []node{{Kind: feedback, A: 6, Depth: 1}}, Edges: []edge{{From: mostNodes - 1, To: 0}}}
	for i := 1; i < mostNodes; i++ {
		g.Nodes = append(g.Nodes, node{Kind: concat, Depth: 1})
		g.Edges = append(g.Edges, edge{From: i - 1, To: i}, edge{From: i - 1, To: i, Port: 1})
	}
	return g
}

// fed is another one of the greatest: the Feedback leads to each Concat, three deep.
func fed() net {
	g := net{Nodes: []node{{Kind: feedback, A: 6, Depth: 3}}, Edges: []edge{{From: mostNodes / 2, To: 0}}}
	for i := 1; i < mostNodes; i++ {
		g.Nodes = append(g.Nodes, node{Kind: concat, Depth: 3})
		g.Edges = append(g.Edges, edge{From: 0, To: i}, edge{From: i - 1, To: i, Port: 1})
	}
	return g
}

// feedbacks is Feedbacks alone, each one behind the other, the first behind the last.
func feedbacks(many, depth int) net {
	g := net{}
	for i := range many {
		g.Nodes = append(g.Nodes, node{Kind: feedback, A: 1, Depth: depth})
		g.Edges = append(g.Edges, edge{From: i, To: (i + 1) % many})
	}
	return g
}

// noInput is a loop without any Input, from which a way leads out.
func noInput() net {
	return net{
		Nodes: []node{{Kind: feedback, A: 4, Depth: 2}, {Kind: exchange, Depth: 2}, {Kind: reduce, A: 3, Depth: 2}, {Kind: leave, Depth: 1}, {Kind: leave}, {Kind: capture}},
		Edges: []edge{{From: 0, To: 1}, {From: 1, To: 2}, {From: 2, To: 0}, {From: 2, To: 3}, {From: 3, To: 4}, {From: 4, To: 5}},
	}
}

// alone is two Inputs, and no edge.
func alone() net {
	return net{Nodes: []node{{Kind: input}, {Kind: input}}}
}

type named struct {
	name string
	net
}

func graphs() []named {
	return []named{
		{"pair", pair()}, {"row", row()}, {"branch", branch()}, {"loop", loop()}, {"loops", loops()}, {"deep", deep()},
		{"straight", straight()}, {"beside", beside()}, {"again", again()}, {"twoWays", twoWays()}, {"eitherFed", eitherFed()},
		{"keptOrNot", keptOrNot()}, {"inAndOut", inAndOut()}, {"full", full()}, {"fed", fed()}, {"one feedback", feedbacks(1, 1)},
		{"feedbacks", feedbacks(12, 3)}, {"noInput", noInput()}, {"alone", alone()},
	}
}

// dice is a row of numbers that is the same each time.
type dice uint64

func (d *dice) below(n int) int {
	*d = *d*6364136223846793005 + 1442695040888963407
	return int(uint64(*d)>>33) % n
}

// thrown is a graph of up to 12 nodes of all depths, whose inputs have one edge each; it needs not be accepted.
func thrown(d *dice) net {
	g := net{}
	for range 2 + d.below(mostNodes-1) {
		depth := d.below(4)
		kinds := []node{{Kind: concat, Depth: depth}, {Kind: exchange, Depth: depth}, {Kind: enter, Depth: max(depth, 1)}, {Kind: leave, Depth: min(depth, 2)}, {Kind: feedback, A: 1, Depth: max(depth, 1)}, {Kind: input}, {Kind: capture}}
		g.Nodes = append(g.Nodes, kinds[d.below(len(kinds))])
	}
	for i, n := range g.Nodes {
		for port := range graph.Ins(n.Kind) {
			var from []int
			for j, m := range g.Nodes {
				if m.Kind != capture && m.Depth == graph.InDepth(n) {
					from = append(from, j)
				}
			}
			if len(from) > 0 {
				g.Edges = append(g.Edges, edge{From: from[d.below(len(from))], To: i, Port: port})
			}
		}
	}
	return g
}

// accepted is many thrown graphs that may run and have a way round.
func accepted(many int) []net {
	d := dice(11)
	var l []net
	for len(l) < many {
		if g := thrown(&d); valid.Graph(g) == api.OK && goesRound(g) {
			l = append(l, g)
		}
	}
	return l
}

func goesRound(g net) bool {
	for _, l := range graph.Locs(g) {
		reached := map[loc]int{}
		now := ahead(g, l)
		for len(now) > 0 {
			x := now[0]
			now = now[1:]
			if reached[x]++; reached[x] == 1 {
				now = append(now, ahead(g, x)...)
			}
		}
		if reached[l] > 0 {
			return true
		}
	}
	return false
}

func far() []int { return []int{math.MinInt, math.MinInt + 1, math.MaxInt - 1, math.MaxInt} }

// nowhere is places that a graph has not.
func nowhere(g net) []loc {
	n := len(g.Nodes)
	l := []loc{at(-1, 0), behind(-1), at(n, 0), behind(n), at(0, -2), at(0, 2), at(n-1, 2), at(n-1, -2)}
	for _, x := range far() {
		l = append(l, at(x, 0), behind(x), at(0, x), at(x, x))
	}
	for i, n := range g.Nodes {
		switch n.Kind {
		case capture:
			l = append(l, behind(i), at(i, 1))
		case input:
			l = append(l, at(i, 0), at(i, 1))
		case concat:
			l = append(l, at(i, 2))
		default:
			l = append(l, at(i, 1))
		}
	}
	return l
}

func around(g net) []loc { return append(graph.Locs(g), nowhere(g)...) }

// The same again, otherwise: walks, longer ones each time.

// ahead is where one step leads.
func ahead(g net, l loc) []loc {
	if l.Port != out {
		if g.Nodes[l.Node].Kind == capture {
			return nil
		}
		return []loc{behind(l.Node)}
	}
	var to []loc
	for _, e := range g.Edges {
		if e.From == l.Node {
			to = append(to, at(e.To, e.Port))
		}
	}
	return to
}

// gone is what a walk does that did s and takes one step more from l.
func gone(g net, l loc, s sum) sum {
	if l.Port == out {
		return s
	}
	switch g.Nodes[l.Node].Kind {
	case enter:
		s.To++
	case leave:
		s.To--
		s.Keep = min(s.Keep, s.To)
		s.Add[s.To] = 0
	case feedback:
		s.Add[s.To-1]++
	}
	return s
}

func depthOf(g net, l loc) int {
	n := g.Nodes[l.Node]
	switch {
	case l.Port != out && n.Kind == enter:
		return n.Depth - 1
	case l.Port != out && n.Kind == leave:
		return n.Depth + 1
	}
	return n.Depth
}

// rounds is how often a counter is counted up, at most: more often than there are Feedbacks nothing new comes of it.
func rounds(g net) int {
	most := 2
	for _, n := range g.Nodes {
		if n.Kind == feedback {
			most++
		}
	}
	return most
}

// walked is all that walks from a place do, by where they lead.
func walked(g net, from loc) map[loc][]sum {
	depth, most := depthOf(g, from), rounds(g)
	all := map[loc][]sum{}
	seen := map[loc]map[sum]int{}
	now := map[loc]map[sum]int{from: {sum{From: depth, To: depth, Keep: depth}: 1}}
	for len(now) > 0 {
		next := map[loc]map[sum]int{}
		for l, sums := range now {
			for s := range sums {
				if seen[l][s] > 0 || slices.Max(s.Add[:]) > most {
					continue
				}
				put(seen, l, s)
				all[l] = append(all[l], s)
				for _, to := range ahead(g, l) {
					put(next, to, gone(g, l, s))
				}
			}
		}
		now = next
	}
	return all
}

func put(sets map[loc]map[sum]int, l loc, s sum) {
	if sets[l] == nil {
		sets[l] = map[sum]int{}
	}
	sets[l][s] = 1
}

func atMost(s, r sum) bool {
	if s.From != r.From || s.To != r.To {
		return false
	}
	for i := range s.To {
		if i < s.Keep && i >= r.Keep || s.Add[i] > r.Add[i] {
			return false
		}
	}
	return true
}

func leastSums(l []sum) []sum {
	low := slices.DeleteFunc(slices.Clone(l), func(s sum) bool {
		return slices.ContainsFunc(l, func(r sum) bool { return r != s && atMost(r, s) })
	})
	slices.SortFunc(low, func(s, r sum) int {
		return cmp.Or(cmp.Compare(s.Keep, r.Keep), slices.Compare(s.Add[:], r.Add[:]))
	})
	return low
}

func leastTimes(l []time) []time {
	var low []time
	for _, x := range l {
		if !slices.ContainsFunc(l, func(y time) bool { return ts.Less(y, x) }) && !slices.Contains(low, x) {
			low = append(low, x)
		}
	}
	return ts.Sort(low)
}

// whole is what Sums tells of each two places of a graph.
type whole map[loc]map[loc][]sum

func wholeOf(g net) whole {
	w := whole{}
	for _, from := range graph.Locs(g) {
		w[from] = map[loc][]sum{}
		for to, l := range walked(g, from) {
			w[from][to] = leastSums(l)
		}
	}
	return w
}

// could is what comes of a time over those.
func (w whole) could(from loc, x time, to loc) []time {
	var made []time
	for _, s := range w[from][to] {
		y := time{Epoch: x.Epoch, Depth: s.To, L: s.Add}
		for i := range s.Keep {
			y.L[i] += x.L[i]
		}
		if ts.May(x) && x.Depth == s.From && ts.May(y) {
			made = append(made, y)
		}
	}
	return leastTimes(made)
}

func (w whole) front(l []change, to loc) []time {
	var made []time
	for _, c := range l {
		if c.N > 0 {
			made = append(made, w.could(c.Loc, c.Time, to)...)
		}
	}
	return leastTimes(made)
}

// some is times of each depth, some of which may be and some not.
func some() []time {
	var l []time
	for _, epoch := range []int{0, 3, mostEpoch} {
		for depth := range 4 {
			for _, loops := range [][3]int{{0, 0, 0}, {1, 2, 3}, {5, 0, 1}, {mostLoop, mostLoop - 1, mostLoop}, {mostLoop - 1, mostLoop, 0}, {0, 1, mostLoop - 1}} {
				l = append(l, when(epoch, loops[:depth]...))
			}
		}
	}
	return append(l, never()...)
}

// never is times that may not be.
func never() []time {
	var l []time
	for _, x := range append(far(), -1, mostEpoch+1) {
		l = append(l, when(x), when(x, 0), when(x, 1, 2, 3))
	}
	for _, x := range append(far(), -1, mostLoop+1) {
		l = append(l, when(0, x), when(1, x, 0), when(1, 0, x), when(2, 0, 0, x), when(2, x, x, x))
	}
	for _, x := range append(far(), -1, 4) {
		l = append(l, time{Depth: x}, time{Epoch: 1, Depth: x, L: [3]int{1, 1, 1}})
	}
	for _, x := range append(far(), -1, 1, mostLoop) {
		l = append(l, time{L: [3]int{x, 0, 0}}, time{Depth: 1, L: [3]int{0, x, 0}}, time{Depth: 1, L: [3]int{0, 0, x}}, time{Depth: 2, L: [3]int{0, 0, x}})
	}
	return l
}

func TestTheGraphsOfTheseTests(t *testing.T) {
	for _, g := range graphs() {
		if err := valid.Graph(g.net); err != api.OK {
			t.Error(g.name, err)
		}
		for _, l := range nowhere(g.net) {
			if graph.Is(g.net, l) {
				t.Error(g.name, l)
			}
		}
	}
	for _, x := range never() {
		if ts.May(x) {
			t.Error(x)
		}
	}
	if g := full(); len(g.Nodes) != 12 || len(g.Edges) != 23 {
		t.Error(len(g.Nodes), len(g.Edges))
	}
}

// P11.1

func TestExamples(t *testing.T) {
	if l := New(pair()).Could(behind(0), when(3), at(1, 0)); !slices.Equal(l, times(when(3))) {
		t.Error(l)
	}
	if l := New(loop()).Sums(at(2, 0), at(2, 0)); !slices.Equal(l, sums(summary.Same(1))) {
		t.Error(l)
	}
}

func TestSums(t *testing.T) {
	same := func(depth int) sum { return sum{From: depth, To: depth, Keep: depth} }
	for i, x := range []struct {
		g        net
		from, to loc
		want     []sum
	}{
		{row(), behind(0), at(5, 0), sums(same(0))},
		{row(), behind(0), behind(0), sums(same(0))},
		{row(), at(5, 0), at(5, 0), sums(same(0))},
		{row(), at(3, 0), behind(3), sums(same(0))},
		{row(), behind(3), at(3, 0), nil},
		{row(), at(5, 0), behind(5), nil},
		{branch(), behind(0), at(3, 0), sums(same(0))},
		{branch(), behind(0), at(3, 1), sums(same(0))},
		{branch(), behind(0), at(4, 0), sums(same(0))},
		{branch(), behind(0), at(7, 0), sums(same(0))},
		{branch(), at(3, 0), at(3, 1), nil},
		{branch(), behind(1), at(7, 0), nil},
		{alone(), behind(0), behind(0), sums(same(0))},
		{alone(), behind(0), behind(1), nil},

		// into a loop, round it, and out of it
		{loop(), at(1, 0), behind(1), sums(sum{To: 1})},
		{loop(), behind(0), at(2, 1), sums(sum{To: 1, Add: [3]int{1}})},
		{loop(), behind(1), at(2, 1), sums(sum{From: 1, To: 1, Keep: 1, Add: [3]int{1}})},
		{loop(), at(2, 1), at(2, 0), nil},
		{loop(), at(2, 1), at(2, 1), sums(same(1))},
		{loop(), at(3, 0), at(5, 0), sums(sum{From: 1})},
		{loop(), behind(0), at(5, 0), sums(same(0))},

		// the inner loop can be gone round, or left and entered again: neither does less
		{loops(), at(4, 0), at(4, 0), sums(sum{From: 2, To: 2, Keep: 1, Add: [3]int{1}}, same(2))},
		{loops(), at(6, 0), behind(5), sums(sum{From: 2, To: 2, Keep: 1, Add: [3]int{1}}, sum{From: 2, To: 2, Keep: 2, Add: [3]int{0, 1}})},
		{loops(), at(7, 0), at(5, 0), sums(sum{From: 2, To: 2, Keep: 1, Add: [3]int{1}})},
		{loops(), at(7, 0), at(6, 0), sums(sum{From: 2, To: 2, Keep: 1, Add: [3]int{1}})},
		{loops(), behind(7), at(4, 1), sums(sum{From: 1, To: 2, Keep: 1, Add: [3]int{1, 1}})},
		{loops(), behind(8), behind(8), sums(same(1))},
		{loops(), at(4, 1), at(9, 0), sums(sum{From: 2, To: 1, Keep: 1})},
		{loops(), at(4, 1), at(10, 0), sums(sum{From: 2})},
		{loops(), behind(0), at(4, 0), sums(sum{To: 2})},
		{loops(), at(10, 0), behind(0), nil},

		{deep(), at(6, 0), at(6, 0), sums(sum{From: 3, To: 3, Keep: 1, Add: [3]int{1}}, sum{From: 3, To: 3, Keep: 2, Add: [3]int{0, 1}}, same(3))},
		{deep(), at(6, 0), at(6, 1), sums(sum{From: 3, To: 3, Keep: 1, Add: [3]int{1, 0, 1}}, sum{From: 3, To: 3, Keep: 2, Add: [3]int{0, 1, 1}}, sum{From: 3, To: 3, Keep: 3, Add: [3]int{0, 0, 1}})},
		{deep(), at(11, 0), behind(6), sums(sum{From: 1, To: 3, Keep: 1, Add: [3]int{1}})},
		{deep(), at(6, 1), at(11, 0), sums(sum{From: 3, To: 1, Keep: 1})},
		{deep(), behind(6), behind(9), sums(sum{From: 3, To: 2, Keep: 1, Add: [3]int{1, 1}}, sum{From: 3, To: 2, Keep: 2, Add: [3]int{0, 1}})},

		// what a loop added is lost where it is left, and does not come back
		{straight(), behind(0), behind(6), sums(sum{To: 3, Add: [3]int{1, 1, 1}})},
		{straight(), behind(0), at(9, 0), sums(sum{To: 1, Add: [3]int{1}})},
		{straight(), behind(0), behind(9), sums(sum{To: 2, Add: [3]int{1}})},
		{straight(), behind(2), behind(9), sums(sum{From: 1, To: 2, Keep: 1})},
		{straight(), at(4, 0), behind(9), sums(sum{From: 2, To: 2, Keep: 1})},
		{straight(), at(6, 0), behind(7), sums(sum{From: 3, To: 2, Keep: 2})},
		{straight(), behind(0), behind(11), sums(same(0))},

		{beside(), behind(1), at(8, 0), sums(sum{From: 1})},
		{beside(), behind(3), at(4, 0), nil},
		{beside(), behind(0), at(4, 0), sums(sum{To: 1, Add: [3]int{1}})},
		{again(), behind(2), behind(7), sums(sum{From: 1, To: 1, Add: [3]int{1}})},
		{again(), at(3, 0), at(6, 0), sums(sum{From: 1, To: 1})},
		{again(), behind(7), at(2, 1), nil},
		{twoWays(), at(2, 0), behind(7), sums(same(1))},
		{twoWays(), at(2, 0), behind(6), sums(sum{From: 1, To: 1, Keep: 1, Add: [3]int{1}})},
		{twoWays(), at(7, 0), at(7, 0), sums(same(1))},
		{twoWays(), at(7, 1), at(7, 0), sums(sum{From: 1, To: 1, Keep: 1, Add: [3]int{2}})},
		{twoWays(), at(5, 0), behind(4), sums(sum{From: 1, To: 1, Keep: 1, Add: [3]int{2}})},
		{eitherFed(), behind(0), behind(6), sums(sum{To: 2, Add: [3]int{0, 1}}, sum{To: 2, Add: [3]int{1}})},
		{eitherFed(), behind(1), behind(6), sums(sum{From: 1, To: 2, Keep: 1, Add: [3]int{0, 1}}, sum{From: 1, To: 2, Keep: 1, Add: [3]int{1}})},
		{eitherFed(), behind(1), behind(7), sums(sum{From: 1, To: 1, Keep: 1})},
		{keptOrNot(), behind(2), at(9, 0), sums(sum{From: 2, To: 2, Keep: 1, Add: [3]int{1}}, sum{From: 2, To: 2, Keep: 2, Add: [3]int{0, 1}})},
		{keptOrNot(), behind(1), at(9, 0), sums(sum{From: 1, To: 2, Keep: 1, Add: [3]int{0, 1}}, sum{From: 1, To: 2, Keep: 1, Add: [3]int{1}})},
		{inAndOut(), behind(3), behind(3), sums(sum{From: 2, To: 2, Keep: 1, Add: [3]int{1}}, same(2))},
		{inAndOut(), behind(4), at(4, 0), sums(sum{From: 2, To: 2, Keep: 1, Add: [3]int{1}})},
		{full(), at(0, 0), behind(11), sums(sum{From: 1, To: 1, Keep: 1, Add: [3]int{1}})},
		{full(), at(11, 1), at(11, 0), sums(sum{From: 1, To: 1, Keep: 1, Add: [3]int{1}})},
		{full(), behind(0), behind(11), sums(same(1))},
		{fed(), behind(11), behind(0), nil},
		{fed(), at(6, 0), behind(11), sums(same(3))},
		{fed(), at(6, 0), at(11, 0), sums(sum{From: 3, To: 3, Keep: 3, Add: [3]int{0, 0, 1}})},
		{feedbacks(1, 1), at(0, 0), behind(0), sums(sum{From: 1, To: 1, Keep: 1, Add: [3]int{1}})},
		{feedbacks(1, 1), behind(0), at(0, 0), sums(same(1))},
		{feedbacks(12, 3), at(3, 0), behind(2), sums(sum{From: 3, To: 3, Keep: 3, Add: [3]int{0, 0, 12}})},
		{noInput(), behind(1), at(1, 0), sums(sum{From: 2, To: 2, Keep: 2, Add: [3]int{0, 1}})},
		{noInput(), at(0, 0), at(5, 0), sums(sum{From: 2})},
	} {
		if l := New(x.g).Sums(x.from, x.to); !slices.Equal(l, x.want) {
			t.Error(i, l)
		}
	}
}

func TestSumsOfEachTwoPlaces(t *testing.T) {
	for _, g := range graphs() {
		p, w := New(g.net), wholeOf(g.net)
		several := 0
		for _, from := range around(g.net) {
			for _, to := range around(g.net) {
				l := p.Sums(from, to)
				if !slices.Equal(l, w[from][to]) {
					t.Error(g.name, from, to, l, w[from][to])
				}
				several = max(several, len(l))
			}
		}
		if most := map[string]int{"loops": 2, "deep": 3, "eitherFed": 2, "keptOrNot": 2, "inAndOut": 2}[g.name]; several != max(most, 1) {
			t.Error(g.name, several)
		}
	}
}

func TestSumsOfThrownGraphs(t *testing.T) {
	for _, g := range accepted(2000) {
		p, w := New(g), wholeOf(g)
		for _, from := range around(g) {
			for _, to := range around(g) {
				if l := p.Sums(from, to); !slices.Equal(l, w[from][to]) {
					t.Error(g, from, to, l, w[from][to])
				}
			}
		}
	}
}

func TestNoPlaceLeadsNowhere(t *testing.T) {
	for _, g := range graphs() {
		p := New(g.net)
		for _, l := range around(g.net) {
			for _, none := range nowhere(g.net) {
				if len(p.Sums(l, none)) != 0 || len(p.Sums(none, l)) != 0 {
					t.Error(g.name, l, none)
				}
			}
		}
		for _, l := range graph.Locs(g.net) {
			if !slices.Contains(p.Sums(l, l), summary.Same(depthOf(g.net, l))) {
				t.Error(g.name, l)
			}
		}
	}
}

// P11.2

func TestCould(t *testing.T) {
	for i, x := range []struct {
		g    net
		from loc
		x    time
		to   loc
		want []time
	}{
		{pair(), behind(0), when(0), at(1, 0), times(when(0))},
		{pair(), behind(0), when(mostEpoch), at(1, 0), times(when(mostEpoch))},
		{pair(), behind(0), when(-1), at(1, 0), nil},
		{pair(), behind(0), when(mostEpoch + 1), at(1, 0), nil},
		{pair(), behind(0), when(3, 0), at(1, 0), nil},
		{pair(), behind(0), time{Epoch: 3, L: [3]int{1}}, at(1, 0), nil},
		{pair(), at(1, 0), when(3), behind(0), nil},
		{pair(), at(1, 0), when(3), at(1, 0), times(when(3))},

		{loop(), behind(0), when(3), at(2, 0), times(when(3, 0))},
		{loop(), behind(0), when(3), at(2, 1), times(when(3, 1))},
		{loop(), at(2, 0), when(3, 5), at(2, 1), times(when(3, 6))},
		{loop(), at(2, 0), when(3, 999), at(2, 1), times(when(3, 1000))},
		{loop(), at(2, 0), when(3, 1000), at(2, 1), nil},
		{loop(), at(2, 0), when(3, 1000), at(2, 0), times(when(3, 1000))},
		{loop(), at(2, 0), when(3, 1001), at(2, 0), nil},
		{loop(), at(2, 0), when(3), at(2, 1), nil},
		{loop(), at(2, 0), when(3, 0, 0), at(2, 1), nil},
		{loop(), at(2, 0), time{Epoch: 3, Depth: 1, L: [3]int{5, 1}}, at(2, 0), nil},

		// what would go over on the way is lost where the loop is left
		{loop(), at(3, 0), when(3, 1000), at(5, 0), times(when(3))},
		{again(), at(3, 0), when(3, 1000), at(6, 1), times(when(3, 1))},

		{loops(), at(4, 0), when(2, 5, 6), at(4, 0), times(when(2, 5, 6), when(2, 6, 0))},
		{loops(), at(4, 0), when(2, 5, 0), at(4, 0), times(when(2, 5, 0))},
		{loops(), at(4, 0), when(2, 5, 6), at(4, 1), times(when(2, 5, 7), when(2, 6, 1))},
		{loops(), at(4, 0), when(2, 5, 0), at(4, 1), times(when(2, 5, 1))},
		{loops(), at(4, 0), when(2, 1000, 6), at(4, 1), times(when(2, 1000, 7))},
		{loops(), at(4, 0), when(2, 5, 1000), at(4, 1), times(when(2, 6, 1))},
		{loops(), at(4, 0), when(2, 1000, 1000), at(4, 1), nil},
		{loops(), at(4, 0), when(2, 1000, 1000), at(10, 0), times(when(2))},
		{deep(), at(6, 0), when(5, 1, 2, 3), at(6, 0), times(when(5, 1, 2, 3), when(5, 1, 3, 0), when(5, 2, 0, 0))},
		{deep(), at(6, 0), when(5, 1, 2, 0), at(6, 0), times(when(5, 1, 2, 0), when(5, 2, 0, 0))},
		{deep(), at(6, 0), when(5, 1, 0, 3), at(6, 0), times(when(5, 1, 0, 3), when(5, 1, 1, 0), when(5, 2, 0, 0))},
		{deep(), at(6, 0), when(5, 1, 1000, 1000), at(6, 1), times(when(5, 2, 0, 1))},
		{deep(), at(6, 0), when(5, 1000, 2, 3), at(6, 1), times(when(5, 1000, 2, 4), when(5, 1000, 3, 1))},
		{eitherFed(), behind(0), when(7), at(7, 0), times(when(7, 0, 1), when(7, 1, 0))},
		{eitherFed(), behind(1), when(7, 1000), at(7, 0), times(when(7, 1000, 1))},
		{feedbacks(12, 3), at(3, 0), when(7, 1, 2, 988), behind(2), times(when(7, 1, 2, 1000))},
		{feedbacks(12, 3), at(3, 0), when(7, 1, 2, 989), behind(2), nil},
	} {
		if l := New(x.g).Could(x.from, x.x, x.to); !slices.Equal(l, x.want) {
			t.Error(i, l)
		}
	}
}

func TestCouldOfManyTimes(t *testing.T) {
	for _, g := range graphs() {
		p, w := New(g.net), wholeOf(g.net)
		for _, x := range some() {
			for _, from := range graph.Locs(g.net) {
				for _, to := range graph.Locs(g.net) {
					if l := p.Could(from, x, to); !slices.Equal(l, w.could(from, x, to)) {
						t.Error(g.name, from, x, to, l)
					}
				}
			}
			for _, l := range graph.Locs(g.net) {
				for _, none := range nowhere(g.net) {
					if len(p.Could(l, x, none)) != 0 || len(p.Could(none, x, l)) != 0 {
						t.Error(g.name, l, x, none)
					}
				}
			}
		}
	}
}

// reached is the lowest times to which walks come that begin with a time, each step done to the time itself.
func reached(g net, from loc, x time) map[loc][]time {
	most := slices.Max(x.L[:]) + rounds(g)
	all := map[loc][]time{}
	type stand struct {
		at loc
		x  time
	}
	seen := map[stand]int{}
	now := []stand{{from, x}}
	for len(now) > 0 {
		s := now[0]
		now = now[1:]
		if seen[s]++; seen[s] > 1 || slices.Max(s.x.L[:]) > most {
			continue
		}
		all[s.at] = append(all[s.at], s.x)
		// of a time as of a summary: a step adds a counter, takes one away, or counts one up
		done := gone(g, s.at, sum{To: s.x.Depth, Add: s.x.L})
		for _, to := range ahead(g, s.at) {
			now = append(now, stand{to, time{Epoch: s.x.Epoch, Depth: done.To, L: done.Add}})
		}
	}
	for l := range all {
		all[l] = leastTimes(all[l])
	}
	return all
}

func TestCouldIsWhereWalksCome(t *testing.T) {
	for _, g := range graphs() {
		p := New(g.net)
		for _, from := range graph.Locs(g.net) {
			for _, loops := range [][]int{{0, 0, 0}, {2, 3, 4}, {0, 7, 0}} {
				x := when(9, loops[:depthOf(g.net, from)]...)
				come := reached(g.net, from, x)
				for _, to := range graph.Locs(g.net) {
					if l := p.Could(from, x, to); !slices.Equal(l, come[to]) {
						t.Error(g.name, from, x, to, l, come[to])
					}
				}
			}
		}
	}
}

func TestFront(t *testing.T) {
	p := New(loops())
	in := behind(0)
	mid := at(4, 0)
	for i, x := range []struct {
		l    []change
		to   loc
		want []time
	}{
		{nil, mid, nil},
		{[]change{}, mid, nil},
		{[]change{more(in, when(3), 1)}, mid, times(when(3, 0, 0))},
		{[]change{more(in, when(3), math.MaxInt)}, mid, times(when(3, 0, 0))},
		{[]change{more(in, when(3), 0)}, mid, nil},
		{[]change{more(in, when(3), -1)}, mid, nil},
		{[]change{more(in, when(3), math.MinInt)}, mid, nil},

		// each change counts by itself: nothing is taken off another one
		{[]change{more(in, when(3), 1), more(in, when(3), -1)}, mid, times(when(3, 0, 0))},
		{[]change{more(in, when(3), -5), more(in, when(3), 2)}, mid, times(when(3, 0, 0))},
		{[]change{more(in, when(3), 1), more(in, when(3), 1)}, mid, times(when(3, 0, 0))},
		{[]change{more(in, when(4), 1), more(in, when(3), 1)}, mid, times(when(3, 0, 0))},
		{[]change{more(in, when(4), 1), more(in, when(3), 0)}, mid, times(when(4, 0, 0))},
		{[]change{more(in, when(4), 1), more(mid, when(3, 1, 2), 1)}, mid, times(when(3, 1, 2), when(3, 2, 0), when(4, 0, 0))},
		{[]change{more(mid, when(3, 1, 2), 1), more(in, when(4), 1)}, mid, times(when(3, 1, 2), when(3, 2, 0), when(4, 0, 0))},
		{[]change{more(mid, when(3, 1, 2), 1), more(in, when(3), 1)}, mid, times(when(3, 0, 0))},
		{[]change{more(mid, when(3, 1, 2), 1), more(mid, when(3, 2, 1), 1)}, mid, times(when(3, 1, 2), when(3, 2, 0))},
		{[]change{more(mid, when(3, 1, 2), 1), more(mid, when(3, 0, 4), 1)}, mid, times(when(3, 0, 4), when(3, 1, 0))},
		{[]change{more(mid, when(3, 1, 2), 1), more(at(7, 0), when(3, 1, 2), 1)}, at(9, 0), times(when(3, 1))},

		// what is no place, no time, or none of the place's
		{[]change{more(at(-1, 0), when(3), 1), more(behind(11), when(3), 1), more(behind(10), when(3), 1), more(at(0, 0), when(3), 1), more(at(0, -2), when(3), 1)}, mid, nil},
		{[]change{more(in, when(-1), 1), more(in, when(mostEpoch+1), 1), more(in, when(3, 0), 1), more(mid, when(3), 1), more(mid, when(3, 1001, 0), 1), more(mid, when(3, 0, -1), 1)}, mid, nil},
		{[]change{more(at(-1, 0), when(0), 1), more(in, when(-1), 1), more(in, when(7), 1), more(in, when(0, 0), 1)}, mid, times(when(7, 0, 0))},
		{[]change{more(in, when(3), 1)}, behind(10), nil},
		{[]change{more(in, when(3), 1)}, at(-1, 0), nil},
		{[]change{more(in, when(3), 1)}, at(12, 0), nil},
		{[]change{more(at(10, 0), when(3), 1)}, mid, nil},
		{[]change{more(at(10, 0), when(3), 1)}, at(10, 0), times(when(3))},

		// what goes over is left out, the rest is told
		{[]change{more(at(6, 0), when(3, 1000, 1000), 1), more(at(6, 0), when(4, 1000, 0), 1)}, mid, nil},
		{[]change{more(at(6, 0), when(3, 1000, 1000), 1), more(at(6, 0), when(4, 1000, 0), 1)}, at(4, 1), times(when(4, 1000, 1))},
		{[]change{more(at(6, 0), when(3, 1000, 1000), 1), more(at(6, 0), when(4, 999, 1000), 1)}, mid, times(when(4, 1000, 0))},
	} {
		if l := p.Front(x.l, x.to); !slices.Equal(l, x.want) {
			t.Error(i, l)
		}
		turned := slices.Clone(x.l)
		slices.Reverse(turned)
		if l := p.Front(turned, x.to); !slices.Equal(l, x.want) {
			t.Error(i, l)
		}
	}
}

// several is changes at places of a graph and at others, at times that may be and that may not, of numbers above 0 and others.
func several(d *dice, g net, many int) []change {
	places, none, wrong := graph.Locs(g), nowhere(g), never()
	numbers := append(far(), -1, 0, 1, 2, 1, 1)
	var l []change
	for len(l) < many {
		c := change{Loc: places[d.below(len(places))], N: numbers[d.below(len(numbers))]}
		c.Time = time{Epoch: d.below(9), Depth: depthOf(g, c.Loc)}
		for i := range c.Time.Depth {
			c.Time.L[i] = d.below(6)
			if d.below(12) == 0 {
				c.Time.L[i] = mostLoop - d.below(3)
			}
		}
		switch d.below(9) {
		case 0:
			c.Loc = none[d.below(len(none))]
		case 1:
			c.Time = wrong[d.below(len(wrong))]
		case 2:
			l = append(l, c)
		}
		l = append(l, c)
	}
	return l
}

func TestFrontOfManyChanges(t *testing.T) {
	d := dice(5)
	for _, g := range graphs() {
		p, w := New(g.net), wholeOf(g.net)
		for _, many := range []int{1, 2, 3, 7, 40} {
			l := several(&d, g.net, many)
			for _, to := range around(g.net) {
				if got := p.Front(l, to); !slices.Equal(got, w.front(l, to)) {
					t.Error(g.name, l, to, got)
				}
			}
		}
		l := several(&d, g.net, 1500)
		to := graph.Locs(g.net)[len(graph.Locs(g.net))/2]
		if got := p.Front(l, to); !slices.Equal(got, w.front(l, to)) {
			t.Error(g.name, to, got)
		}
	}
}

// Front of one change with a number above 0 is Could.
func TestFrontOfOne(t *testing.T) {
	for _, g := range graphs() {
		p := New(g.net)
		for _, from := range graph.Locs(g.net) {
			x := when(4, []int{3, 2, 1}[:depthOf(g.net, from)]...)
			for _, to := range graph.Locs(g.net) {
				could := p.Could(from, x, to)
				for _, n := range append(far(), -1, 0, 1, 2) {
					want := could
					if n <= 0 {
						want = nil
					}
					if l := p.Front([]change{more(from, x, n)}, to); !slices.Equal(l, want) {
						t.Error(g.name, from, x, n, to, l)
					}
				}
			}
		}
	}
}

// P11.3

func TestWhatComesOfWhatComesIsCovered(t *testing.T) {
	for _, g := range graphs() {
		p, places := New(g.net), graph.Locs(g.net)
		for _, a := range places {
			x := when(2, []int{1, 999, 3}[:depthOf(g.net, a)]...)
			for _, b := range places {
				mid := p.Could(a, x, b)
				for _, c := range places {
					low := p.Could(a, x, c)
					for _, y := range mid {
						for _, z := range p.Could(b, y, c) {
							if !slices.ContainsFunc(low, func(w time) bool { return ts.LessEq(w, z) }) {
								t.Error(g.name, a, x, b, y, c, z, low)
							}
						}
					}
				}
			}
		}
	}
}

func TestSumsBehindSumsAreCovered(t *testing.T) {
	for _, g := range graphs() {
		p, places := New(g.net), graph.Locs(g.net)
		for _, a := range places {
			for _, b := range places {
				for _, c := range places {
					low := p.Sums(a, c)
					for _, s := range p.Sums(a, b) {
						for _, r := range p.Sums(b, c) {
							both, err := summary.Then(s, r)
							if err != api.OK || !slices.ContainsFunc(low, func(x sum) bool { return atMost(x, both) }) {
								t.Error(g.name, a, b, c, s, r, low)
							}
						}
					}
				}
			}
		}
	}
}

// R1

func TestEachCallEnds(t *testing.T) {
	numbers := append(far(), -2, -1, 0, 1, 3, 4, 1000)
	for _, g := range graphs() {
		p := New(g.net)
		for _, x := range numbers {
			for _, y := range numbers {
				l := loc{Node: x, Port: y}
				for _, z := range []time{{Epoch: x, Depth: y, L: [3]int{x, y, x}}, {Epoch: 1, Depth: 1, L: [3]int{x, 0, y}}, {Depth: x, L: [3]int{0, y, 0}}, {Depth: 3, L: [3]int{y, x, x}}} {
					p.Could(l, z, l)
					p.Could(behind(0), z, l)
					p.Could(l, z, at(0, 0))
					p.Front([]change{more(l, z, x), more(at(2, 0), z, y), more(l, when(1, 1), 1)}, l)
					p.Front([]change{more(at(2, 0), z, x), more(at(2, 0), z, 1)}, at(2, 0))
				}
				p.Sums(l, l)
				p.Sums(l, at(0, 0))
				p.Sums(behind(0), l)
			}
		}
	}
}

// R6

// answers is all that a Paths tells, asked in one order or the other.
func answers(p *Paths, g net, turned bool) map[[2]loc][][]time {
	places := around(g)
	if turned {
		slices.Reverse(places)
	}
	d := dice(3)
	l := several(&d, g, 20)
	all := map[[2]loc][][]time{}
	for _, from := range places {
		for _, to := range places {
			told := [][]time{p.Front(l, to)}
			for depth := range 4 {
				told = append(told, p.Could(from, when(2, []int{4, 5, 6}[:depth]...), to))
			}
			for _, s := range p.Sums(from, to) {
				told = append(told, times(time{Epoch: s.Keep, L: s.Add}, time{Depth: s.From}, time{Depth: s.To, Epoch: s.Epochs}))
			}
			all[[2]loc{from, to}] = told
		}
	}
	return all
}

func likeAnswers(a, b map[[2]loc][][]time) bool {
	if len(a) != len(b) {
		return false
	}
	for k, l := range a {
		if !slices.EqualFunc(l, b[k], slices.Equal[[]time]) {
			return false
		}
	}
	return true
}

func TestTheSameAgain(t *testing.T) {
	for _, g := range graphs() {
		p := New(g.net)
		first := answers(p, g.net, false)
		if !likeAnswers(answers(p, g.net, true), first) || !likeAnswers(answers(p, g.net, false), first) {
			t.Error(g.name, "asked again")
		}
		for range 4 {
			if !likeAnswers(answers(New(g.net), g.net, true), first) {
				t.Error(g.name, "another one")
			}
		}
	}
}

// The order of the edges does not count, and nodes are what their edges make of them, whatever their numbers.
func TestTheOrderOfTheEdges(t *testing.T) {
	for _, g := range graphs() {
		turned := net{Nodes: g.Nodes, Edges: slices.Clone(g.Edges)}
		slices.Reverse(turned.Edges)
		p, r := New(g.net), New(turned)
		for _, from := range graph.Locs(g.net) {
			for _, to := range graph.Locs(g.net) {
				if !slices.Equal(p.Sums(from, to), r.Sums(from, to)) {
					t.Error(g.name, from, to)
				}
			}
		}
	}
}

func TestTheOrderOfTheNodes(t *testing.T) {
	for _, g := range graphs() {
		last := len(g.Nodes) - 1
		turned := net{Nodes: slices.Clone(g.Nodes)}
		slices.Reverse(turned.Nodes)
		for _, e := range g.Edges {
			turned.Edges = append(turned.Edges, edge{From: last - e.From, To: last - e.To, Port: e.Port})
		}
		p, r := New(g.net), New(turned)
		for _, from := range graph.Locs(g.net) {
			for _, to := range graph.Locs(g.net) {
				if !slices.Equal(p.Sums(from, to), r.Sums(at(last-from.Node, from.Port), at(last-to.Node, to.Port))) {
					t.Error(g.name, from, to)
				}
			}
		}
	}
}

// R7

func spare[T any](l []T, behind ...T) []T {
	all := append(slices.Clone(l), behind...)
	return all[:len(l)]
}

func wide[T any](l []T) []T { return l[:cap(l)] }

func TestTheGraphIsNeitherChangedNorKept(t *testing.T) {
	for _, x := range graphs() {
		g := net{Nodes: spare(x.Nodes, node{Kind: input}, node{Kind: capture}), Edges: spare(x.Edges, edge{From: 0, To: len(x.Nodes)}, edge{From: 0, To: 1})}
		nodes, edges := slices.Clone(wide(g.Nodes)), slices.Clone(wide(g.Edges))
		first := answers(New(x.net), x.net, false)
		p := New(g)
		if !likeAnswers(answers(p, x.net, false), first) {
			t.Error(x.name, "the spare room is read")
		}
		if !slices.Equal(wide(g.Nodes), nodes) || !slices.Equal(wide(g.Edges), edges) {
			t.Error(x.name, "changed")
		}
		for i := range wide(g.Nodes) {
			wide(g.Nodes)[i] = node{Kind: feedback, A: 1, Depth: 3}
		}
		for i := range wide(g.Edges) {
			wide(g.Edges)[i] = edge{From: 0, To: 0}
		}
		if !likeAnswers(answers(p, x.net, true), first) {
			t.Error(x.name, "kept")
		}
	}
}

func TestChangesAreNeitherChangedNorKept(t *testing.T) {
	d := dice(8)
	for _, g := range graphs() {
		p := New(g.net)
		l := spare(several(&d, g.net, 30), more(behind(0), when(0), 1), more(at(2, 0), when(0, 0), 1))
		kept := slices.Clone(wide(l))
		for _, to := range graph.Locs(g.net) {
			first := p.Front(l, to)
			again := slices.Clone(first)
			if !slices.Equal(wide(l), kept) {
				t.Error(g.name, to, "changed")
			}
			for i := range wide(l) {
				wide(l)[i] = more(behind(0), when(0), 1)
			}
			if !slices.Equal(first, again) {
				t.Error(g.name, to, "shared")
			}
			copy(wide(l), kept)
			if !slices.Equal(p.Front(l, to), again) {
				t.Error(g.name, to, "kept")
			}
		}
	}
}

// overwrite writes over an answer, the room behind its end too.
func overwrite[T any](l []T, mark T) {
	for i := range wide(l) {
		wide(l)[i] = mark
	}
}

func TestAnswersAreTheCallersOwn(t *testing.T) {
	d := dice(9)
	for _, g := range graphs() {
		p := New(g.net)
		first := answers(p, g.net, false)
		l := several(&d, g.net, 12)
		for _, from := range graph.Locs(g.net) {
			x := when(2, []int{4, 5, 6}[:depthOf(g.net, from)]...)
			for _, to := range graph.Locs(g.net) {
				s, r := p.Sums(from, to), p.Sums(from, to)
				a, b := p.Could(from, x, to), p.Could(from, x, to)
				f, h := p.Front(l, to), p.Front(l, to)
				keptSums, keptTimes, keptFront := slices.Clone(r), slices.Clone(b), slices.Clone(h)
				overwrite(s, sum{From: 3, To: 3, Keep: 1})
				overwrite(a, when(0))
				overwrite(f, when(0, 0))
				if !slices.Equal(r, keptSums) || !slices.Equal(b, keptTimes) || !slices.Equal(h, keptFront) {
					t.Error(g.name, from, to, "shared")
				}
			}
		}
		if !likeAnswers(answers(p, g.net, false), first) {
			t.Error(g.name, "kept")
		}
	}
}

// Two Paths have nothing to do with each other, nor has a graph that one of them was made of.
func TestTwoPathsAtOnce(t *testing.T) {
	g := loops()
	p := New(g)
	first := answers(p, g, false)
	r := New(pair())
	if !likeAnswers(answers(p, g, false), first) {
		t.Error("another one's graph is seen")
	}
	if l := r.Sums(behind(0), at(1, 0)); !slices.Equal(l, sums(sum{})) {
		t.Error(l)
	}
	if l := r.Sums(at(4, 0), at(4, 0)); len(l) != 0 {
		t.Error(l)
	}
}
