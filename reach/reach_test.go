package reach

import (
	"math"
	"slices"
	"sync"
	"testing"

	"meander/api"
	"meander/graph"
	"meander/paths"
	"meander/ts"
	"meander/valid"
)

// The kinds and the bounds, written out, so that another number of one is found.
const (
	input    = 1
	mapped   = 2
	filter   = 3
	concat   = 4
	exchange = 5
	reduce   = 6
	windowed = 7
	enter    = 8
	leave    = 9
	feedback = 10
	capture  = 11
	out      = -1

	mostNodes = 12
	mostEpoch = 1048576
	mostLoop  = 1000
	mostTimes = 400
	most      = 1073741824

	errArg   = 1
	errBig   = 3
	errCount = 23
)

type (
	node   = api.Node
	edge   = api.Edge
	loc    = api.Loc
	net    = api.Graph
	time   = api.Time
	change = api.Change
)

// at is an input of a node, and the place behind a node is its output.
func at(node, port int) loc { return loc{Node: node, Port: port} }

func behind(node int) loc { return loc{Node: node, Port: out} }

func when(epoch int, l ...int) time {
	x := time{Epoch: epoch, Depth: len(l)}
	copy(x.L[:], l)
	return x
}

func places(l ...loc) []loc { return l }

func times(l ...time) []time { return l }

func changes(l ...change) []change { return l }

func more(l loc, x time, n int) change { return change{Loc: l, Time: x, N: n} }

// pair is an Input, a Capture and an edge.
func pair() net {
	return net{Nodes: []node{{Kind: input}, {Kind: capture}}, Edges: []edge{{From: 0, To: 1}}}
}

// row is nodes one behind the other.
func row() net {
	return net{
		Nodes: []node{{Kind: input}, {Kind: mapped, A: 1, B: 3}, {Kind: filter, A: 1, B: 9}, {Kind: exchange}, {Kind: reduce, A: 2}, {Kind: capture}},
		Edges: []edge{{From: 0, To: 1}, {From: 1, To: 2}, {From: 2, To: 3}, {From: 3, To: 4}, {From: 4, To: 5}},
	}
}

// branch is an Input whose records go three ways, of which two come together again.
func branch() net {
	return net{
		Nodes: []node{{Kind: input}, {Kind: mapped, A: 4}, {Kind: filter, A: 4}, {Kind: concat}, {Kind: capture}, {Kind: exchange}, {Kind: windowed, A: 4, B: 2}, {Kind: capture}},
		Edges: []edge{{From: 0, To: 2}, {From: 0, To: 1}, {From: 1, To: 3, Port: 1}, {From: 0, To: 5}, {From: 2, To: 3}, {From: 3, To: 4}, {From: 5, To: 6}, {From: 6, To: 7}},
	}
}

// loop is a graph with a loop from the Feedback 3 back to the Concat 2.
func loop() net {
	return net{
		Nodes: []node{{Kind: input}, {Kind: enter, Depth: 1}, {Kind: concat, Depth: 1}, {Kind: feedback, A: 2, Depth: 1}, {Kind: leave}, {Kind: capture}},
		Edges: []edge{{From: 0, To: 1}, {From: 1, To: 2}, {From: 2, To: 3}, {From: 3, To: 2, Port: 1}, {From: 2, To: 4}, {From: 4, To: 5}},
	}
}

// loops is a loop in a loop: the inner one from 6 back to 4, the outer one from 8 back to 2, so that the inner one is left and entered again in each round.
func loops() net {
	return net{
		Nodes: []node{{Kind: input}, {Kind: enter, Depth: 1}, {Kind: concat, Depth: 1}, {Kind: enter, Depth: 2}, {Kind: concat, Depth: 2}, {Kind: mapped, A: 2, B: 2, Depth: 2}, {Kind: feedback, A: 3, Depth: 2}, {Kind: leave, Depth: 1}, {Kind: feedback, A: 2, Depth: 1}, {Kind: leave}, {Kind: capture}},
		Edges: []edge{{From: 0, To: 1}, {From: 1, To: 2}, {From: 2, To: 3}, {From: 3, To: 4}, {From: 4, To: 5}, {From: 5, To: 6}, {From: 6, To: 4, Port: 1}, {From: 5, To: 7}, {From: 7, To: 8}, {From: 8, To: 2, Port: 1}, {From: 7, To: 9}, {From: 9, To: 10}},
	}
}

// deep is three loops, one in the other: 7 leads back to 6, 9 to 4, and 11 to 2.
func deep() net {
	return net{
		Nodes: []node{{Kind: input}, {Kind: enter, Depth: 1}, {Kind: concat, Depth: 1}, {Kind: enter, Depth: 2}, {Kind: concat, Depth: 2}, {Kind: enter, Depth: 3}, {Kind: concat, Depth: 3}, {Kind: feedback, A: 1, Depth: 3}, {Kind: leave, Depth: 2}, {Kind: feedback, A: 1, Depth: 2}, {Kind: leave, Depth: 1}, {Kind: feedback, A: 1, Depth: 1}},
		Edges: []edge{{From: 0, To: 1}, {From: 1, To: 2}, {From: 2, To: 3}, {From: 3, To: 4}, {From: 4, To: 5}, {From: 5, To: 6}, {From: 6, To: 7}, {From: 7, To: 6, Port: 1}, {From: 6, To: 8}, {From: 8, To: 9}, {From: 9, To: 4, Port: 1}, {From: 8, To: 10}, {From: 10, To: 11}, {From: 11, To: 2, Port: 1}},
	}
}

// straight leads in three deep and out again, with a Feedback at each depth but without a way round.
func straight() net {
	return net{
		Nodes: []node{{Kind: input}, {Kind: enter, Depth: 1}, {Kind: feedback, A: 1, Depth: 1}, {Kind: enter, Depth: 2}, {Kind: feedback, A: 1, Depth: 2}, {Kind: enter, Depth: 3}, {Kind: feedback, A: 1, Depth: 3}, {Kind: leave, Depth: 2}, {Kind: leave, Depth: 1}, {Kind: enter, Depth: 2}, {Kind: leave, Depth: 1}, {Kind: leave}},
		Edges: []edge{{From: 0, To: 1}, {From: 1, To: 2}, {From: 2, To: 3}, {From: 3, To: 4}, {From: 4, To: 5}, {From: 5, To: 6}, {From: 6, To: 7}, {From: 7, To: 8}, {From: 8, To: 9}, {From: 9, To: 10}, {From: 10, To: 11}},
	}
}

// beside is two loops of one Enter, side by side.
func beside() net {
	return net{
		Nodes: []node{{Kind: input}, {Kind: enter, Depth: 1}, {Kind: concat, Depth: 1}, {Kind: feedback, A: 1, Depth: 1}, {Kind: concat, Depth: 1}, {Kind: feedback, A: 2, Depth: 1}, {Kind: leave}, {Kind: leave}, {Kind: concat}, {Kind: capture}},
		Edges: []edge{{From: 0, To: 1}, {From: 1, To: 2}, {From: 2, To: 3}, {From: 3, To: 2, Port: 1}, {From: 1, To: 4, Port: 1}, {From: 4, To: 5}, {From: 5, To: 4}, {From: 2, To: 6}, {From: 4, To: 7}, {From: 6, To: 8, Port: 1}, {From: 7, To: 8}, {From: 8, To: 9}},
	}
}

// again is a loop that is left, and another one that is entered then.
func again() net {
	return net{
		Nodes: []node{{Kind: input}, {Kind: enter, Depth: 1}, {Kind: concat, Depth: 1}, {Kind: feedback, A: 1, Depth: 1}, {Kind: leave}, {Kind: enter, Depth: 1}, {Kind: concat, Depth: 1}, {Kind: feedback, A: 6, Depth: 1}, {Kind: leave}, {Kind: capture}},
		Edges: []edge{{From: 0, To: 1}, {From: 1, To: 2}, {From: 2, To: 3}, {From: 3, To: 2, Port: 1}, {From: 2, To: 4}, {From: 4, To: 5}, {From: 5, To: 6}, {From: 6, To: 7}, {From: 7, To: 6, Port: 1}, {From: 6, To: 8}, {From: 8, To: 9}},
	}
}

// twoWays is a loop with two ways through it: over 4, or over 5 and 6, one more round ahead.
func twoWays() net {
	return net{
		Nodes: []node{{Kind: input}, {Kind: enter, Depth: 1}, {Kind: concat, Depth: 1}, {Kind: feedback, A: 1, Depth: 1}, {Kind: mapped, A: 4, Depth: 1}, {Kind: filter, A: 4, Depth: 1}, {Kind: feedback, A: 2, Depth: 1}, {Kind: concat, Depth: 1}},
		Edges: []edge{{From: 0, To: 1}, {From: 1, To: 2}, {From: 2, To: 5}, {From: 5, To: 6}, {From: 6, To: 7}, {From: 2, To: 4}, {From: 4, To: 7, Port: 1}, {From: 7, To: 3}, {From: 3, To: 2, Port: 1}},
	}
}

// eitherFed leads two deep over two ways: one has a Feedback in the outer loop, the other one in the inner loop, and neither does less than the other.
func eitherFed() net {
	return net{
		Nodes: []node{{Kind: input}, {Kind: enter, Depth: 1}, {Kind: feedback, A: 1, Depth: 1}, {Kind: enter, Depth: 2}, {Kind: enter, Depth: 2}, {Kind: feedback, A: 1, Depth: 2}, {Kind: concat, Depth: 2}, {Kind: leave, Depth: 1}, {Kind: leave}, {Kind: capture}},
		Edges: []edge{{From: 0, To: 1}, {From: 1, To: 2}, {From: 2, To: 3}, {From: 3, To: 6}, {From: 1, To: 4}, {From: 4, To: 5}, {From: 5, To: 6, Port: 1}, {From: 6, To: 7}, {From: 7, To: 8}, {From: 8, To: 9}},
	}
}

// keptOrNot leads from the loop 2 of an outer one on over two ways: one goes round once more in it, the other one leaves it and enters it again.
func keptOrNot() net {
	return net{
		Nodes: []node{{Kind: input}, {Kind: enter, Depth: 1}, {Kind: enter, Depth: 2}, {Kind: feedback, A: 1, Depth: 2}, {Kind: leave, Depth: 1}, {Kind: feedback, A: 1, Depth: 1}, {Kind: enter, Depth: 2}, {Kind: concat, Depth: 2}, {Kind: exchange, Depth: 2}, {Kind: reduce, A: 1, Depth: 2}},
		Edges: []edge{{From: 0, To: 1}, {From: 1, To: 2}, {From: 2, To: 3}, {From: 3, To: 7}, {From: 2, To: 4}, {From: 4, To: 5}, {From: 5, To: 6}, {From: 6, To: 7, Port: 1}, {From: 7, To: 8}, {From: 8, To: 9}},
	}
}

// inAndOut is a loop whose way round enters another one, which has no Feedback, and leaves it again.
func inAndOut() net {
	return net{
		Nodes: []node{{Kind: input}, {Kind: enter, Depth: 1}, {Kind: concat, Depth: 1}, {Kind: enter, Depth: 2}, {Kind: exchange, Depth: 2}, {Kind: leave, Depth: 1}, {Kind: feedback, A: 1, Depth: 1}},
		Edges: []edge{{From: 0, To: 1}, {From: 1, To: 2}, {From: 2, To: 3}, {From: 3, To: 4}, {From: 4, To: 5}, {From: 5, To: 6}, {From: 6, To: 2, Port: 1}},
	}
}

// full is as many nodes as may be, one of them a Feedback, the others Concats, each with both inputs from the node ahead. As each input has just one edge, 24 edges would ask for 12 Concats, which go round without a Feedback: no graph that is accepted has more edges than this.
func full() net {
	g := net{Nodes: []node{{Kind: feedback, A: 6, Depth: 1}}, Edges: []edge{{From: mostNodes - 1, To: 0}}}
	for i := 1; i < mostNodes; i++ {
		g.Nodes = append(g.Nodes, node{Kind: concat, Depth: 1})
		g.Edges = append(g.Edges, edge{From: i - 1, To: i}, edge{From: i - 1, To: i, Port: 1})
	}
	return g
}

// fed is another one of the greatest: the Feedback leads to each Concat, three deep.
func fed() net {
	g := net{Nodes: []node{{Kind: feedback, A: 6, Depth: 3}}, Edges: []edge{{From: mostNodes / 2, To: 0}}}
	for i := 1; i < mostNodes; i++ {
		g.Nodes = append(g.Nodes, node{Kind: concat, Depth: 3})
		g.Edges = append(g.Edges, edge{From: 0, To: i}, edge{From: i - 1, To: i, Port: 1})
	}
	return g
}

// feedbacks is Feedbacks alone, each one behind the other, the first behind the last.
func feedbacks(many, depth int) net {
	g := net{}
	for i := range many {
		g.Nodes = append(g.Nodes, node{Kind: feedback, A: 1, Depth: depth})
		g.Edges = append(g.Edges, edge{From: i, To: (i + 1) % many})
	}
	return g
}

// noInput is a loop without any Input, from which a way leads out.
func noInput() net {
	return net{
		Nodes: []node{{Kind: feedback, A: 4, Depth: 2}, {Kind: exchange, Depth: 2}, {Kind: reduce, A: 3, Depth: 2}, {Kind: leave, Depth: 1}, {Kind: leave}, {Kind: capture}},
		Edges: []edge{{From: 0, To: 1}, {From: 1, To: 2}, {From: 2, To: 0}, {From: 2, To: 3}, {From: 3, To: 4}, {From: 4, To: 5}},
	}
}

// alone is two Inputs, and no edge.
func alone() net {
	return net{Nodes: []node{{Kind: input}, {Kind: input}}}
}

type named struct {
	name string
	net
}

func graphs() []named {
	return []named{
		{"pair", pair()}, {"row", row()}, {"branch", branch()}, {"loop", loop()}, {"loops", loops()}, {"deep", deep()},
		{"straight", straight()}, {"beside", beside()}, {"again", again()}, {"twoWays", twoWays()}, {"eitherFed", eitherFed()},
		{"keptOrNot", keptOrNot()}, {"inAndOut", inAndOut()}, {"full", full()}, {"fed", fed()}, {"one feedback", feedbacks(1, 1)},
		{"feedbacks", feedbacks(12, 3)}, {"noInput", noInput()}, {"alone", alone()},
	}
}

// dice is a row of numbers that is the same each time.
type dice uint64

func (d *dice) below(n int) int {
	*d = *d*6364136223846793005 + 1442695040888963407
	return int(uint64(*d)>>33) % n
}

// thrown is a graph of up to 12 nodes of all depths, whose inputs have one edge each; it needs not be accepted.
func thrown(d *dice) net {
	g := net{}
	for range 2 + d.below(mostNodes-1) {
		depth := d.below(4)
		kinds := []node{{Kind: concat, Depth: depth}, {Kind: exchange, Depth: depth}, {Kind: enter, Depth: max(depth, 1)}, {Kind: leave, Depth: min(depth, 2)}, {Kind: feedback, A: 1, Depth: max(depth, 1)}, {Kind: input}, {Kind: capture}}
		g.Nodes = append(g.Nodes, kinds[d.below(len(kinds))])
	}
	for i, n := range g.Nodes {
		for port := range graph.Ins(n.Kind) {
			var from []int
			for j, m := range g.Nodes {
				if m.Kind != capture && m.Depth == graph.InDepth(n) {
					from = append(from, j)
				}
			}
			if len(from) > 0 {
				g.Edges = append(g.Edges, edge{From: from[d.below(len(from))], To: i, Port: port})
			}
		}
	}
	return g
}

// accepted is many thrown graphs that may run and have a way round.
func accepted(many int) []net {
	d := dice(11)
	var l []net
	for len(l) < many {
		if g := thrown(&d); valid.Graph(g) == api.OK && goesRound(g) {
			l = append(l, g)
		}
	}
	return l
}

func goesRound(g net) bool {
	for _, l := range graph.Locs(g) {
		reached := map[loc]int{}
		now := ahead(g, l)
		for len(now) > 0 {
			x := now[0]
			now = now[1:]
			if reached[x]++; reached[x] == 1 {
				now = append(now, ahead(g, x)...)
			}
		}
		if reached[l] > 0 {
			return true
		}
	}
	return false
}

func far() []int { return []int{math.MinInt, math.MinInt + 1, math.MaxInt - 1, math.MaxInt} }

// nowhere is places that a graph has not.
func nowhere(g net) []loc {
	n := len(g.Nodes)
	l := []loc{at(-1, 0), behind(-1), at(n, 0), behind(n), at(0, -2), at(0, 2), at(n-1, 2), at(n-1, -2)}
	for _, x := range far() {
		l = append(l, at(x, 0), behind(x), at(0, x), at(x, x))
	}
	for i, n := range g.Nodes {
		switch n.Kind {
		case capture:
			l = append(l, behind(i), at(i, 1))
		case input:
			l = append(l, at(i, 0), at(i, 1))
		case concat:
			l = append(l, at(i, 2))
		default:
			l = append(l, at(i, 1))
		}
	}
	return l
}

func around(g net) []loc { return append(graph.Locs(g), nowhere(g)...) }

// ahead is where one step leads.
func ahead(g net, l loc) []loc {
	if l.Port != out {
		if g.Nodes[l.Node].Kind == capture {
			return nil
		}
		return []loc{behind(l.Node)}
	}
	var to []loc
	for _, e := range g.Edges {
		if e.From == l.Node {
			to = append(to, at(e.To, e.Port))
		}
	}
	return to
}

// never is times that may not be.
func never() []time {
	var l []time
	for _, x := range append(far(), -1, mostEpoch+1) {
		l = append(l, when(x), when(x, 0), when(x, 1, 2, 3))
	}
	for _, x := range append(far(), -1, mostLoop+1) {
		l = append(l, when(0, x), when(1, x, 0), when(1, 0, x), when(2, 0, 0, x), when(2, x, x, x))
	}
	for _, x := range append(far(), -1, 4) {
		l = append(l, time{Depth: x}, time{Epoch: 1, Depth: x, L: [3]int{1, 1, 1}})
	}
	for _, x := range append(far(), -1, 1, mostLoop) {
		l = append(l, time{L: [3]int{x, 0, 0}}, time{Depth: 1, L: [3]int{0, x, 0}}, time{Depth: 1, L: [3]int{0, 0, x}}, time{Depth: 2, L: [3]int{0, 0, x}})
	}
	return l
}

// The same again, word by word.

// model has all numbers that ever were counted, and no frontiers: these are what paths make of all numbers.
type model struct {
	g       net
	paths   *paths.Paths
	numbers map[loc]map[time]int
}

func modelOf(g net) *model {
	return &model{g: g, paths: paths.New(g), numbers: map[loc]map[time]int{}}
}

func (m *model) clone() *model {
	c := &model{g: m.g, paths: m.paths, numbers: map[loc]map[time]int{}}
	for l, numbers := range m.numbers {
		c.numbers[l] = map[time]int{}
		for x, n := range numbers {
			c.numbers[l][x] = n
		}
	}
	return c
}

func (m *model) counts() []change {
	var all []change
	for _, l := range graph.Locs(m.g) {
		var l2 []time
		for x, n := range m.numbers[l] {
			if n != 0 {
				l2 = append(l2, x)
			}
		}
		for _, x := range ts.Sort(l2) {
			all = append(all, more(l, x, m.numbers[l][x]))
		}
	}
	return all
}

func (m *model) frontier(l loc) []time { return m.paths.Front(m.counts(), l) }

func (m *model) fault(c change) api.Errno {
	if !graph.Is(m.g, c.Loc) || !ts.May(c.Time) || c.Time.Depth != graph.Depth(m.g, c.Loc) || c.N < -most || c.N > most {
		return errArg
	}
	sum, others := m.numbers[c.Loc][c.Time]+c.N, 0
	for x, n := range m.numbers[c.Loc] {
		if x != c.Time && n != 0 {
			others++
		}
	}
	switch {
	case sum < -most || sum > most:
		return errCount
	case sum != 0 && others >= mostTimes:
		return errBig
	}
	return api.OK
}

func (m *model) update(l []change) ([]loc, api.Errno) {
	after := m.clone()
	for _, c := range l {
		if err := after.fault(c); err != api.OK {
			return nil, err
		}
		if after.numbers[c.Loc] == nil {
			after.numbers[c.Loc] = map[time]int{}
		}
		after.numbers[c.Loc][c.Time] += c.N
	}
	var others []loc
	before, now := m.counts(), after.counts()
	for _, l := range graph.Locs(m.g) {
		if !slices.Equal(m.paths.Front(before, l), m.paths.Front(now, l)) {
			others = append(others, l)
		}
	}
	m.numbers = after.numbers
	return others, api.OK
}

// agree asks a tracker all that there is to ask, and holds it against the model.
func agree(t *testing.T, name string, r *Tracker, m *model) {
	t.Helper()
	counts := m.counts()
	if l := r.Counts(); !slices.Equal(l, counts) {
		t.Error(name, "counts", l, counts)
	}
	if r.Done() != (len(counts) == 0) {
		t.Error(name, "done", r.Done())
	}
	for l, numbers := range m.numbers {
		for x, n := range numbers {
			if r.Count(l, x) != n {
				t.Error(name, l, x, r.Count(l, x), n)
			}
		}
	}
	for _, l := range graph.Locs(m.g) {
		if f := r.Frontier(l); !slices.Equal(f, m.paths.Front(counts, l)) {
			t.Error(name, l, f)
		}
	}
	for _, l := range nowhere(m.g) {
		if len(r.Frontier(l)) != 0 {
			t.Error(name, l, "is none")
		}
	}
}

// step is a call of Update and its answer.
type step struct {
	l    []change
	want []loc
	err  api.Errno
}

func walk(t *testing.T, r *Tracker, steps []step) {
	t.Helper()
	for i, x := range steps {
		if l, err := r.Update(x.l); !slices.Equal(l, x.want) || err != x.err {
			t.Error(i, x.l, "answers", l, err)
		}
	}
}

// with is a tracker that has counted changes.
func with(t *testing.T, g net, l ...change) *Tracker {
	t.Helper()
	r := New(g)
	update(t, r, l...)
	return r
}

func update(t *testing.T, r *Tracker, l ...change) []loc {
	t.Helper()
	told, err := r.Update(l)
	if err != api.OK {
		t.Error(l, err)
	}
	return told
}

// state is all that a tracker of a graph tells.
type state struct {
	counts []change
	fronts [][]time
	done   bool
}

func stateOf(r *Tracker, g net) state {
	s := state{counts: r.Counts(), done: r.Done()}
	for _, l := range graph.Locs(g) {
		s.fronts = append(s.fronts, r.Frontier(l))
	}
	return s
}

func likeStates(a, b state) bool {
	return a.done == b.done && slices.Equal(a.counts, b.counts) && slices.EqualFunc(a.fronts, b.fronts, slices.Equal[[]time])
}

func unlike(t *testing.T, r *Tracker, g net, s state) bool {
	t.Helper()
	if likeStates(stateOf(r, g), s) {
		return false
	}
	t.Error(stateOf(r, g), s)
	return true
}

func TestTheGraphsOfTheseTests(t *testing.T) {
	for _, g := range graphs() {
		if err := valid.Graph(g.net); err != api.OK {
			t.Error(g.name, err)
		}
		for _, l := range nowhere(g.net) {
			if graph.Is(g.net, l) {
				t.Error(g.name, l)
			}
		}
	}
	for _, x := range never() {
		if ts.May(x) {
			t.Error(x)
		}
	}
}

// P12.1

func TestExample(t *testing.T) {
	r := New(pair())
	update(t, r, more(behind(0), when(2), 1))
	if l := r.Frontier(at(1, 0)); !slices.Equal(l, times(when(2))) {
		t.Error(l)
	}
	update(t, r, more(behind(0), when(3), 1), more(behind(0), when(2), -1))
	if l := r.Frontier(at(1, 0)); !slices.Equal(l, times(when(3))) {
		t.Error(l)
	}
}

func TestUpdateOfNoChanges(t *testing.T) {
	for _, g := range graphs() {
		r := New(g.net)
		for range 2 {
			empty := stateOf(r, g.net)
			for _, l := range [][]change{nil, {}, spare([]change{}, more(behind(0), when(1), 1))} {
				if told, err := r.Update(l); len(told) != 0 || err != api.OK {
					t.Error(g.name, l, told, err)
				}
				unlike(t, r, g.net, empty)
			}
			first := graph.Locs(g.net)[0]
			update(t, r, more(first, when(4, make([]int, graph.Depth(g.net, first))...), 2))
		}
	}
}

// The answer is the places where the frontier is another one now, and no others.
func TestPlacesThatAreTold(t *testing.T) {
	in, end := behind(0), at(5, 0)
	fromExchange := places(behind(3), at(3, 0), behind(4), at(4, 0), at(5, 0))
	all := graph.Locs(row())
	walk(t, New(row()), []step{
		{l: changes(more(at(3, 0), when(4), 1)), want: fromExchange},
		{l: changes(more(at(3, 0), when(4), 1))}, // another number, no other frontier
		{l: changes(more(at(3, 0), when(5), 7))}, // covered by another time
		{l: changes(more(behind(3), when(4), 1))},
		{l: changes(more(at(3, 0), when(4), -1))},
		{l: changes(more(behind(3), when(4), -1))},
		{l: changes(more(at(3, 0), when(4), -1)), want: fromExchange}, // leaves the one it covered
		{l: changes(more(end, when(3), 1)), want: places(end)},
		{l: changes(more(end, when(3), -1)), want: places(end)},
		{l: changes(more(end, when(3), -1))}, // below 0: counts for no frontier
		{l: changes(more(end, when(3), 1))},
		{l: changes(more(in, when(5), 1)), want: places(behind(0), behind(1), at(1, 0), behind(2), at(2, 0))},
		{l: changes(more(in, when(2), 1)), want: all},
		{l: changes(more(in, when(2), -1)), want: all},
		{l: changes(more(at(3, 0), when(5), -7))},
		{l: changes(more(in, when(5), -1)), want: all},
		{l: changes(more(in, when(5), 1), more(in, when(5), -1))}, // came and went in one batch
		{l: changes(more(in, when(5), -2), more(in, when(5), 1))},
		{l: changes(more(in, when(5), 2), more(end, when(1), 1)), want: all},
		{l: changes(more(in, when(5), -1), more(end, when(1), -1)), want: all},
	})
	r := New(alone())
	walk(t, r, []step{
		{l: changes(more(behind(1), when(0), 1)), want: places(behind(1))},
		{l: changes(more(behind(0), when(0), 1)), want: places(behind(0))},
		{l: changes(more(behind(1), when(0), -1), more(behind(0), when(0), -1)), want: places(behind(0), behind(1))},
	})
}

func TestPlacesThatAreToldOfALoop(t *testing.T) {
	in, mid, back := behind(0), at(2, 0), at(2, 1)
	all := graph.Locs(loop())
	inside := places(behind(2), at(2, 1), behind(3), at(3, 0))
	left := places(behind(4), at(4, 0), at(5, 0))
	walk(t, New(loop()), []step{
		{l: changes(more(in, when(3), 1)), want: all},
		// what the Input may send covers all of its epoch in the loop
		{l: changes(more(mid, when(3, 4), 1))},
		// behind the loop the epoch is held back by what is in it
		{l: changes(more(in, when(3), -1), more(in, when(7), 1)), want: places(behind(0), behind(1), at(1, 0), behind(2), at(2, 0), at(2, 1), behind(3), at(3, 0), at(4, 0))},
		{l: changes(more(back, when(3, 4), 1)), want: places(back)},
		{l: changes(more(mid, when(3, 4), -1)), want: places(mid)},
		{l: changes(more(behind(2), when(3, 1001), 1)), err: errArg},
		{l: changes(more(behind(2), when(3, 1000), 1))},
		{l: changes(more(back, when(3, 4), -1)), want: places(behind(2), back, behind(3), at(3, 0), at(4, 0))},
		// the last round, of which no other one could come
		{l: changes(more(behind(2), when(3, 1000), -1)), want: places(behind(2), at(3, 0), behind(4), at(4, 0), at(5, 0))},
		{l: changes(more(back, when(6, 0), 1)), want: slices.Concat(inside, left)},
		// of the epoch 7 nothing is left where 6 was not ahead of it
		{l: changes(more(in, when(7), -1)), want: places(behind(0), behind(1), at(1, 0), at(2, 0))},
		{l: changes(more(back, when(6, 0), -1)), want: slices.Concat(inside, left)},
	})
}

func TestErrors(t *testing.T) {
	l2 := at(4, 0) // two deep
	type fault struct {
		c   change
		err api.Errno
	}
	faults := []fault{
		{more(behind(0), when(3), most), errCount},
		{more(behind(0), when(3), most-1), errCount},
		{more(l2, when(1, 2, 3), -most), errCount},
		{more(l2, when(1, 2, 3), 1-most), errCount},
		{more(behind(0), when(3), most+1), errArg},
		{more(behind(0), when(3), -most-1), errArg},
		{more(l2, when(1, 2, 3), math.MaxInt), errArg},
		{more(l2, when(1, 2, 3), math.MinInt), errArg},
		{more(behind(0), when(3, 0), 1), errArg},
		{more(l2, when(1), 1), errArg},
		{more(l2, when(1, 2), 1), errArg},
		{more(l2, when(1, 2, 3, 4), 1), errArg},
		{more(at(3, 0), when(1, 2, 3), 1), errArg}, // an Enter's input is as deep as what is ahead of it
		{more(behind(3), when(1, 2), 1), errArg},
		{more(at(7, 0), when(1, 2), 1), errArg},
		{more(behind(7), when(1, 2, 3), 1), errArg},
		{more(at(9, 0), when(1), 1), errArg},
		{more(at(11, 0), when(1), 1), errArg},
		{more(at(-1, 0), when(1), 1), errArg},
		{more(behind(10), when(1), 1), errArg},
		{more(at(10, 1), when(1), 1), errArg},
		{more(at(0, 0), when(1), 1), errArg},
	}
	for _, l := range nowhere(loops()) {
		for depth := range 4 {
			faults = append(faults, fault{more(l, when(1, []int{1, 1, 1}[:depth]...), 0), errArg})
		}
	}
	for _, x := range never() {
		for _, l := range graph.Locs(loops()) {
			faults = append(faults, fault{more(l, x, 1), errArg}, fault{more(l, x, 0), errArg})
		}
	}
	r := with(t, loops(), more(behind(0), when(3), 2), more(l2, when(1, 2, 3), -2), more(behind(0), when(9), 5))
	before := stateOf(r, loops())
	right := changes(more(behind(0), when(1), 1), more(l2, when(0, 0, 1), -1), more(at(10, 0), when(2), 3), more(behind(0), when(9), -5))
	for i, x := range faults {
		for many := range len(right) + 1 {
			// the wrong one by itself, behind right ones, and ahead of right ones
			for _, l := range [][]change{append(slices.Clone(right[:many]), x.c), append(changes(x.c), right[:many]...)} {
				if told, err := r.Update(l); len(told) != 0 || err != x.err {
					t.Error(i, l, told, err)
				}
			}
		}
		if unlike(t, r, loops(), before) {
			return
		}
	}
	update(t, r, right...)
	if likeStates(stateOf(r, loops()), before) {
		t.Error("nothing is changed by what is right")
	}
}

// Of two wrong changes the first one counts, whatever it is wrong in.
func TestTheFirstError(t *testing.T) {
	r := with(t, pair(), epochs(at(1, 0), 0, mostTimes, 1)...)
	update(t, r, more(behind(0), when(5), most))
	before := stateOf(r, pair())
	wrong := []struct {
		c   change
		err api.Errno
	}{
		{more(at(2, 0), when(0), 1), errArg},
		{more(behind(0), when(5), 1), errCount},
		{more(at(1, 0), when(mostTimes), 1), errBig},
		{more(behind(0), when(-1), 1), errArg},
	}
	for i, x := range wrong {
		for j, y := range wrong {
			for _, ok := range [][]change{nil, changes(more(behind(0), when(4), 1))} {
				l := append(slices.Clone(ok), x.c, y.c)
				if told, err := r.Update(l); len(told) != 0 || err != x.err {
					t.Error(i, j, told, err)
				}
			}
		}
	}
	unlike(t, r, pair(), before)
	// of one change that is wrong in several ways, the first that the document names
	full := with(t, pair(), epochs(at(1, 0), 0, mostTimes, most)...)
	for i, x := range []step{
		{l: changes(more(at(1, 0), when(0), most+1)), err: errArg},
		{l: changes(more(at(1, 0), when(mostTimes), most+1)), err: errArg},
		{l: changes(more(at(1, 0), when(mostTimes), most)), err: errBig},
		{l: changes(more(at(1, 0), when(0), most)), err: errCount},
		{l: changes(more(at(2, 0), when(0), most)), err: errArg},
	} {
		if told, err := full.Update(x.l); len(told) != 0 || err != x.err {
			t.Error(i, told, err)
		}
	}
}

func TestNumbers(t *testing.T) {
	l, x := behind(0), when(6)
	for i, c := range []struct {
		n    []int
		want int
		err  api.Errno
	}{
		{[]int{0}, 0, api.OK},
		{[]int{1}, 1, api.OK},
		{[]int{-1}, -1, api.OK},
		{[]int{most}, most, api.OK},
		{[]int{-most}, -most, api.OK},
		{[]int{most, 0}, most, api.OK},
		{[]int{most, -most}, 0, api.OK},
		{[]int{most, -most, -most}, -most, api.OK},
		{[]int{-most, most, most}, most, api.OK},
		{[]int{most - 1, 1}, most, api.OK},
		{[]int{most + 1}, 0, errArg},
		{[]int{-most - 1}, 0, errArg},
		{[]int{math.MaxInt}, 0, errArg},
		{[]int{math.MinInt}, 0, errArg},
		{[]int{1, most}, 1, errCount},
		{[]int{most, 1}, most, errCount},
		{[]int{-most, -1}, -most, errCount},
		{[]int{most, most}, most, errCount},
		{[]int{-most, -most}, -most, errCount},
		{[]int{5, math.MinInt}, 5, errArg},
		{[]int{-5, math.MaxInt}, -5, errArg},
	} {
		one, several := New(pair()), New(pair())
		var batch []change
		var err api.Errno
		for _, n := range c.n {
			batch = append(batch, more(l, x, n))
			_, err = several.Update(changes(more(l, x, n)))
		}
		if several.Count(l, x) != c.want || err != c.err {
			t.Error(i, several.Count(l, x), err)
		}
		// in one batch an error changes nothing at all
		want := c.want
		if c.err != api.OK {
			want = 0
		}
		if _, err := one.Update(batch); one.Count(l, x) != want || err != c.err {
			t.Error(i, "in one batch", one.Count(l, x), err)
		}
	}
}

// Changes are taken one behind the other: what goes over on the way is not made good by what comes then.
func TestOverAndBackInOneBatch(t *testing.T) {
	l, x := at(1, 0), when(0)
	for i, s := range []step{
		{l: changes(more(l, x, most), more(l, x, 1), more(l, x, -1)), err: errCount},
		{l: changes(more(l, x, most), more(l, x, -1), more(l, x, 1)), want: places(l)},
		{l: changes(more(l, x, -most), more(l, x, -1), more(l, x, 1)), err: errCount},
		{l: changes(more(l, x, -most), more(l, x, 1), more(l, x, -1))},
		{l: changes(more(l, x, most), more(l, x, most), more(l, x, -most)), err: errCount},
		{l: changes(more(l, x, most), more(l, x, -most), more(l, x, most)), want: places(l)},
		{l: changes(more(l, x, most), more(l, when(1), 1), more(behind(0), x, 1), more(l, x, -most)), want: places(behind(0), l)},
		{l: changes(more(l, x, most), more(behind(0), x, most), more(l, x, 1)), err: errCount},
	} {
		r := New(pair())
		if told, err := r.Update(s.l); !slices.Equal(told, s.want) || err != s.err {
			t.Error(i, told, err)
		}
		if s.err != api.OK && !r.Done() {
			t.Error(i, r.Counts())
		}
	}
}

// epochs is a change for each epoch from one on, as many as there are to be.
func epochs(l loc, from, many, n int) []change {
	var all []change
	for i := range many {
		all = append(all, more(l, when(from+i), n))
	}
	return all
}

func TestTooManyTimes(t *testing.T) {
	in, end := behind(0), at(1, 0)
	for i, x := range []struct {
		l    []change
		err  api.Errno
		many int
	}{
		{epochs(in, 0, 399, 1), api.OK, 399},
		{epochs(in, 0, 400, 1), api.OK, 400},
		{epochs(in, 0, 401, 1), errBig, 0},
		{epochs(in, 0, 400, -1), api.OK, 400},
		{epochs(in, 0, 401, -1), errBig, 0},
		{epochs(in, 0, 1000, 0), api.OK, 0},
		{append(epochs(in, 0, 400, 1), more(in, when(400), 0)), api.OK, 400},
		{append(epochs(in, 0, 400, 1), more(in, when(3), 5)), api.OK, 400},
		{append(epochs(in, 0, 400, 1), more(in, when(3), -2)), api.OK, 400},
		// each place has its own
		{append(epochs(in, 0, 400, 1), epochs(end, 0, 400, -1)...), api.OK, 800},
		{append(epochs(in, 0, 400, 1), epochs(end, 0, 401, -1)...), errBig, 0},
		// one of them back at 0 ahead of the last one, and behind it
		{append(epochs(in, 0, 400, 1), more(in, when(7), -1), more(in, when(400), 1)), api.OK, 400},
		{append(epochs(in, 0, 400, 1), more(in, when(400), 1), more(in, when(7), -1)), errBig, 0},
		{append(epochs(in, 0, 400, -3), more(in, when(7), 3), more(in, when(400), -1)), api.OK, 400},
		{append(epochs(in, 0, 400, -3), more(in, when(400), -1), more(in, when(7), 3)), errBig, 0},
		{append(epochs(in, 0, 401, 1), epochs(in, 0, 401, -1)...), errBig, 0},
		{append(epochs(in, 0, 400, 1), epochs(in, 0, 400, -1)...), api.OK, 0},
		{slices.Concat(epochs(in, 0, 400, 1), epochs(in, 0, 400, -1), epochs(in, 400, 400, 1)), api.OK, 400},
	} {
		r := New(pair())
		if _, err := r.Update(x.l); err != x.err || len(r.Counts()) != x.many {
			t.Error(i, err, len(r.Counts()))
		}
		// the same in many batches, up to the wrong one
		s := New(pair())
		var err api.Errno
		for _, c := range x.l {
			if _, e := s.Update(changes(c)); e != api.OK {
				err = e
				break
			}
		}
		if err != x.err {
			t.Error(i, "one by one", err)
		}
	}
	r := with(t, pair(), epochs(end, 0, 400, 1)...)
	walk(t, r, []step{
		{l: changes(more(end, when(400), 1)), err: errBig},
		{l: changes(more(end, when(0), -1)), want: places(end)},
		{l: changes(more(end, when(400), 1))},
		{l: changes(more(end, when(0), 1)), err: errBig},
		{l: changes(more(in, when(0), 1)), want: places(in, end)},
	})
}

// As many times as may be, none of which covers another one, in a loop.
func TestManyTimesSideBySide(t *testing.T) {
	var l []change
	for i := range mostTimes {
		l = append(l, more(at(2, 0), when(i, mostTimes-i), 1))
	}
	r, m := with(t, loop(), l...), modelOf(loop())
	m.update(l)
	agree(t, "side by side", r, m)
	if f := r.Frontier(at(2, 1)); len(f) != mostTimes {
		t.Error(len(f))
	}
	if l := update(t, r, more(at(2, 0), when(0, 0), 0), more(at(2, 0), when(0, 400), -1), more(at(2, 0), when(0, 0), 1)); len(l) != 6 {
		t.Error(l)
	}
	if f := r.Frontier(at(2, 1)); !slices.Equal(f, times(when(0, 1))) {
		t.Error(f)
	}
}

// some is changes of places and times that come again and again, so that numbers go up and down, most of them right.
func some(d *dice, g net, many, wrong int) []change {
	all, none, badTimes := graph.Locs(g), nowhere(g), never()
	numbers := []int{1, 1, 1, -1, -1, -1, 2, -2, 0, 3}
	var l []change
	for range many {
		c := change{Loc: all[d.below(len(all))], N: numbers[d.below(len(numbers))]}
		c.Time = time{Epoch: d.below(3), Depth: graph.Depth(g, c.Loc)}
		for i := range c.Time.Depth {
			c.Time.L[i] = []int{0, 1, 2, mostLoop}[d.below(4)]
		}
		if d.below(100) < wrong {
			switch d.below(5) {
			case 0:
				c.Loc = none[d.below(len(none))]
			case 1:
				c.Time = badTimes[d.below(len(badTimes))]
			case 2:
				c.Time.Depth++
			case 3:
				c.N = []int{most + 1, -most - 1, math.MaxInt, math.MinInt}[d.below(4)]
			case 4:
				c.N = []int{most, -most}[d.below(2)]
			}
		}
		l = append(l, c)
	}
	return l
}

func TestManyUpdates(t *testing.T) {
	d := dice(12)
	for _, g := range graphs() {
		r, m := New(g.net), modelOf(g.net)
		for range 60 {
			follow(t, g.name, r, m, some(&d, g.net, d.below(6), 8))
		}
	}
}

func TestManyUpdatesOfThrownGraphs(t *testing.T) {
	d := dice(13)
	for _, g := range accepted(150) {
		r, m := New(g), modelOf(g)
		for range 12 {
			follow(t, "thrown", r, m, some(&d, g, d.below(10), 4))
		}
	}
}

// follow updates both, and holds them against each other.
func follow(t *testing.T, name string, r *Tracker, m *model, l []change) {
	t.Helper()
	want, wantErr := m.update(l)
	if told, err := r.Update(l); !slices.Equal(told, want) || err != wantErr {
		t.Error(name, l, "answers", told, err, "not", want, wantErr)
	}
	agree(t, name, r, m)
}

// P12.2

func TestANewOne(t *testing.T) {
	for _, g := range graphs() {
		r := New(g.net)
		agree(t, g.name, r, modelOf(g.net))
		if !r.Done() || len(r.Counts()) != 0 || r.Count(behind(0), when(0)) != 0 {
			t.Error(g.name)
		}
	}
}

func TestCount(t *testing.T) {
	mid := at(4, 0)
	r := with(t, loops(), more(behind(0), when(3), 4), more(mid, when(3, 1, 2), -7), more(mid, when(3, 1, 1), most), more(at(4, 1), when(3, 1, 2), 5), more(at(10, 0), when(3), 1), more(at(10, 0), when(3), -1))
	for i, x := range []struct {
		l    loc
		x    time
		want int
	}{
		{behind(0), when(3), 4},
		{mid, when(3, 1, 2), -7},
		{mid, when(3, 1, 1), most},
		{at(4, 1), when(3, 1, 2), 5},
		{at(10, 0), when(3), 0},
		{behind(0), when(2), 0},
		{behind(0), when(4), 0},
		{behind(4), when(3, 1, 2), 0},
		{at(4, 1), when(3, 1, 1), 0},
		{behind(0), when(3, 0), 0},
		{behind(0), when(-1), 0},
		{behind(0), time{Epoch: 3, L: [3]int{1, 0, 0}}, 0},
		{mid, when(3), 0},
		{mid, when(3, 1), 0},
		{at(0, 0), when(3), 0},
		{at(-1, 0), when(3), 0},
		{at(11, 0), when(3), 0},
		{behind(10), when(3), 0},
		{at(4, 2), when(3, 1, 2), 0},
		{at(4, -2), when(3, 1, 2), 0},
	} {
		if n := r.Count(x.l, x.x); n != x.want {
			t.Error(i, n)
		}
	}
	for _, g := range graphs() {
		var l []change
		for _, x := range graph.Locs(g.net) {
			l = append(l, more(x, when(3, []int{1, 1, 1}[:graph.Depth(g.net, x)]...), 5))
		}
		r := with(t, g.net, l...)
		for _, c := range l {
			if r.Count(c.Loc, c.Time) != 5 {
				t.Error(g.name, c, r.Count(c.Loc, c.Time))
			}
			for _, none := range nowhere(g.net) {
				if r.Count(none, c.Time) != 0 {
					t.Error(g.name, none)
				}
			}
			for _, x := range never() {
				if r.Count(c.Loc, x) != 0 {
					t.Error(g.name, c.Loc, x)
				}
			}
		}
	}
}

func TestCountsAreInOrder(t *testing.T) {
	want := changes(
		more(behind(0), when(2), -1), more(behind(0), when(10), 1),
		more(at(2, 0), when(0, 9), 1), more(at(2, 0), when(1, 0), -3), more(at(2, 0), when(1, 8), 2),
		more(behind(4), when(1, 0, 0), 1), more(at(4, 0), when(0, 2, 1), 1), more(at(4, 0), when(0, 10, 0), -most), more(at(4, 1), when(0, 0, 0), 4),
		more(at(9, 0), when(5, 5), 1), more(at(10, 0), when(0), most),
	)
	d := dice(2)
	for range 40 {
		l := slices.Clone(want)
		shuffle(&d, l)
		r := New(loops())
		for _, c := range l {
			update(t, r, c)
		}
		if got := r.Counts(); !slices.Equal(got, want) {
			t.Error(got)
		}
		if got := with(t, loops(), l...).Counts(); !slices.Equal(got, want) {
			t.Error(got)
		}
		update(t, r, more(at(2, 0), when(1, 0), 3), more(at(4, 1), when(0, 0, 0), -4))
		left := slices.DeleteFunc(slices.Clone(want), func(c change) bool { return c.N == -3 || c.N == 4 })
		if got := r.Counts(); !slices.Equal(got, left) {
			t.Error(got)
		}
	}
}

func shuffle[T any](d *dice, l []T) {
	for i := range l {
		j := d.below(i + 1)
		l[i], l[j] = l[j], l[i]
	}
}

func TestFrontiers(t *testing.T) {
	in, mid := behind(0), at(4, 0)
	for i, x := range []struct {
		l    []change
		to   loc
		want []time
	}{
		{changes(more(in, when(3), 1)), mid, times(when(3, 0, 0))},
		{changes(more(in, when(3), 1)), at(4, 1), times(when(3, 0, 1))},
		{changes(more(in, when(3), 1)), at(10, 0), times(when(3))},
		{changes(more(in, when(3), 1), more(in, when(2), 1)), mid, times(when(2, 0, 0))},
		{changes(more(in, when(3), 1), more(in, when(2), -1)), mid, times(when(3, 0, 0))},
		{changes(more(in, when(3), -1)), mid, nil},
		{changes(more(mid, when(3, 1, 2), 1)), mid, times(when(3, 1, 2), when(3, 2, 0))},
		{changes(more(mid, when(3, 1, 2), 1)), in, nil},
		{changes(more(mid, when(3, 1, 2), 1), more(in, when(4), 2)), mid, times(when(3, 1, 2), when(3, 2, 0), when(4, 0, 0))},
		{changes(more(mid, when(3, 1, 2), 1), more(in, when(3), 2)), mid, times(when(3, 0, 0))},
		{changes(more(mid, when(3, 1, 2), -1), more(in, when(4), 2)), mid, times(when(4, 0, 0))},
		{changes(more(mid, when(3, 1, 2), 1), more(in, when(4), 2)), at(10, 0), times(when(3))},
		{changes(more(mid, when(3, 1, 2), 1), more(in, when(4), 2)), at(1, 0), times(when(4))},
		{changes(more(mid, when(3, 1, 2), 1), more(at(7, 0), when(3, 0, 9), 1)), mid, times(when(3, 1, 0))},
		{changes(more(mid, when(3, 1, 2), 1), more(mid, when(3, 0, 9), 1)), mid, times(when(3, 0, 9), when(3, 1, 0))},
		{changes(more(at(6, 0), when(3, 1000, 1000), 1)), mid, nil},
		{changes(more(at(6, 0), when(3, 1000, 999), 1)), at(4, 1), times(when(3, 1000, 1000))},
		{changes(more(in, when(3), 1)), behind(10), nil},
		{changes(more(in, when(3), 1)), at(0, 0), nil},
		{changes(more(in, when(3), 1)), at(-1, 0), nil},
		{changes(more(in, when(3), 1)), at(11, 0), nil},
		{changes(more(in, when(3), 1)), at(4, 2), nil},
		{changes(more(in, when(3), 1)), at(4, -2), nil},
	} {
		if l := with(t, loops(), x.l...).Frontier(x.to); !slices.Equal(l, x.want) {
			t.Error(i, l)
		}
	}
}

// The Frontier at each place, of one time at each place by itself.
func TestFrontierOfOneTime(t *testing.T) {
	for _, g := range graphs() {
		p := paths.New(g.net)
		for _, from := range graph.Locs(g.net) {
			c := more(from, when(2, []int{1, 999, 3}[:graph.Depth(g.net, from)]...), 3)
			r := with(t, g.net, c)
			for _, to := range graph.Locs(g.net) {
				if l := r.Frontier(to); !slices.Equal(l, p.Could(from, c.Time, to)) {
					t.Error(g.name, c, to, l)
				}
			}
			told := update(t, r, more(from, c.Time, -4))
			for _, to := range graph.Locs(g.net) {
				if could := len(p.Could(from, c.Time, to)) > 0; len(r.Frontier(to)) != 0 || slices.Contains(told, to) != could {
					t.Error(g.name, c, to, told)
				}
			}
		}
	}
}

func TestDone(t *testing.T) {
	for _, g := range graphs() {
		r := New(g.net)
		if !r.Done() {
			t.Error(g.name, "new")
		}
		var l, back []change
		for _, x := range graph.Locs(g.net) {
			c := more(x, when(1, []int{1, 2, 3}[:graph.Depth(g.net, x)]...), 1)
			l = append(l, c, change{Loc: c.Loc, Time: when(2, c.Time.L[:c.Time.Depth]...), N: -1})
		}
		for _, c := range l {
			update(t, r, c)
			if r.Done() {
				t.Error(g.name, c)
			}
			back = append(back, change{Loc: c.Loc, Time: c.Time, N: -c.N})
		}
		for i, c := range back {
			update(t, r, c)
			if r.Done() != (i == len(back)-1) {
				t.Error(g.name, c, r.Done())
			}
		}
		agree(t, g.name, r, modelOf(g.net))
		update(t, r, append(slices.Clone(l), back...)...)
		if !r.Done() {
			t.Error(g.name, "in one batch")
		}
		update(t, r, more(l[0].Loc, l[0].Time, 0))
		if !r.Done() {
			t.Error(g.name, "nought")
		}
		below := with(t, g.net, more(l[0].Loc, l[0].Time, -1))
		if below.Done() {
			t.Error(g.name, "below")
		}
	}
}

func TestClone(t *testing.T) {
	d := dice(21)
	for _, g := range graphs() {
		// each one with its model; a new one is cloned from one of them and each goes on by itself
		trackers, models := []*Tracker{New(g.net)}, []*model{modelOf(g.net)}
		for range 25 {
			i := d.below(len(trackers))
			follow(t, g.name, trackers[i], models[i], some(&d, g.net, 1+d.below(5), 6))
			if len(trackers) < 5 {
				trackers, models = append(trackers, trackers[i].Clone()), append(models, models[i].clone())
			}
			for j := range trackers {
				agree(t, g.name, trackers[j], models[j])
			}
		}
	}
}

func TestCloneBothWays(t *testing.T) {
	in, end := behind(0), at(1, 0)
	r := with(t, pair(), more(in, when(2), 1))
	c := r.Clone()
	update(t, c, more(in, when(2), 4), more(in, when(1), 1))
	update(t, r, more(in, when(2), -1), more(end, when(7), 1))
	if l := r.Counts(); !slices.Equal(l, changes(more(end, when(7), 1))) || !slices.Equal(r.Frontier(end), times(when(7))) || len(r.Frontier(in)) != 0 {
		t.Error(l, r.Frontier(end))
	}
	if l := c.Counts(); !slices.Equal(l, changes(more(in, when(1), 1), more(in, when(2), 5))) || !slices.Equal(c.Frontier(end), times(when(1))) {
		t.Error(l, c.Frontier(end))
	}
	// what one of them refuses is not seen by the other, nor is what the other has in hand
	if _, err := c.Update(changes(more(in, when(0), 1), more(in, when(2), most))); err != errCount {
		t.Error(err)
	}
	if r.Count(in, when(0)) != 0 || c.Count(in, when(0)) != 0 {
		t.Error("seen")
	}
	update(t, r, more(end, when(7), -1))
	if !r.Done() || c.Done() {
		t.Error(r.Done(), c.Done())
	}
}

// Clones share no memory that one of them writes: each may be used by a goroutine of its own.
func TestClonesAtOnce(t *testing.T) {
	d := dice(33)
	r := with(t, loops(), some(&d, loops(), 30, 0)...)
	l := some(&d, loops(), 60, 0)
	one := r.Clone()
	for _, c := range l {
		update(t, one, c)
	}
	want := stateOf(one, loops())
	var done sync.WaitGroup
	states := make([]state, 6)
	for i := range states {
		c := r.Clone()
		done.Go(func() {
			for _, x := range l {
				c.Update(changes(x))
			}
			states[i] = stateOf(c, loops())
		})
	}
	done.Wait()
	for i, s := range states {
		if !likeStates(s, want) {
			t.Error(i, s)
		}
	}
}

// P12.3

// small is changes of which none, in whatever order they come, is wrong.
func small(d *dice, g net, many int) []change { return some(d, g, many, 0) }

func TestWhateverTheOrder(t *testing.T) {
	d := dice(41)
	for _, g := range graphs() {
		l := small(&d, g.net, 40)
		m := modelOf(g.net)
		m.update(l)
		want := stateOf(with(t, g.net, l...), g.net)
		for range 8 {
			shuffle(&d, l)
			r := New(g.net)
			for rest := l; len(rest) > 0; {
				many := 1 + d.below(min(len(rest), 9))
				update(t, r, rest[:many]...)
				rest = rest[many:]
			}
			agree(t, g.name, r, m)
			unlike(t, r, g.net, want)
			unlike(t, with(t, g.net, l...), g.net, want)
			one := New(g.net)
			for _, c := range l {
				update(t, one, c)
			}
			unlike(t, one, g.net, want)
		}
	}
}

// A change of N is as good as N changes of 1, and changes with what they are turned come to nothing.
func TestHoweverPutTogether(t *testing.T) {
	d := dice(43)
	for _, g := range graphs() {
		l := small(&d, g.net, 30)
		var ones, turned []change
		for _, c := range l {
			for range max(c.N, -c.N) {
				ones = append(ones, more(c.Loc, c.Time, c.N/max(c.N, -c.N)))
			}
			turned = append(turned, more(c.Loc, c.Time, -c.N))
		}
		shuffle(&d, ones)
		r, s := with(t, g.net, l...), with(t, g.net, ones...)
		unlike(t, s, g.net, stateOf(r, g.net))
		shuffle(&d, turned)
		update(t, r, turned...)
		agree(t, g.name, r, modelOf(g.net))
		if !r.Done() {
			t.Error(g.name, r.Counts())
		}
	}
}

func covered(l []time, x time) bool {
	return slices.ContainsFunc(l, func(y time) bool { return ts.LessEq(y, x) })
}

func TestWhatCouldComeIsCovered(t *testing.T) {
	d := dice(47)
	for _, g := range graphs() {
		p, r := paths.New(g.net), New(g.net)
		for range 30 {
			update(t, r, small(&d, g.net, 4)...)
			for _, to := range graph.Locs(g.net) {
				low := r.Frontier(to)
				for i, x := range low {
					if covered(slices.Delete(slices.Clone(low), i, i+1), x) {
						t.Error(g.name, to, low)
					}
				}
				var could []time
				for _, c := range r.Counts() {
					for _, x := range p.Could(c.Loc, c.Time, to) {
						if c.N > 0 && !covered(low, x) {
							t.Error(g.name, c, x, to, low)
						}
						if c.N > 0 {
							could = append(could, x)
						}
					}
				}
				for _, x := range low {
					if !slices.Contains(could, x) {
						t.Error(g.name, to, x, "comes of nothing")
					}
				}
			}
		}
	}
}

// R1

func TestEachCallEnds(t *testing.T) {
	numbers := append(far(), -most-1, -most, -2, -1, 0, 1, 3, 4, 1000, most, most+1)
	for _, g := range []net{pair(), loops(), deep(), full()} {
		r := New(g)
		for _, x := range numbers {
			for _, y := range numbers {
				l := at(x, y)
				for _, z := range []time{{Epoch: x, Depth: y, L: [3]int{x, y, x}}, {Epoch: 1, Depth: 1, L: [3]int{x, 0, y}}, {Depth: x, L: [3]int{0, y, 0}}, {Depth: 3, L: [3]int{y, x, x}}} {
					for _, c := range []change{more(l, z, x), more(behind(0), z, y), more(l, when(1), y)} {
						if graph.Is(g, c.Loc) && ts.May(c.Time) && graph.Depth(g, c.Loc) == c.Time.Depth {
							continue
						}
						if told, err := r.Update(changes(c)); len(told) != 0 || err != errArg {
							t.Error(c, told, err)
						}
					}
					if r.Count(l, z) != 0 || r.Count(behind(0), z) != 0 {
						t.Error(l, z)
					}
				}
				r.Frontier(l)
			}
		}
		if !r.Done() || !r.Clone().Done() || len(r.Counts()) != 0 {
			t.Error(r.Counts())
		}
	}
}

// A tracker that New did not make has no places.
func TestTheZeroTracker(t *testing.T) {
	r := &Tracker{}
	if l, err := r.Update(nil); len(l) != 0 || err != api.OK {
		t.Error(l, err)
	}
	if l, err := r.Update(changes(more(behind(0), when(0), 1))); len(l) != 0 || err != errArg {
		t.Error(l, err)
	}
	if !r.Done() || r.Count(behind(0), when(0)) != 0 || len(r.Counts()) != 0 || len(r.Frontier(behind(0))) != 0 || !r.Clone().Done() {
		t.Error("not empty")
	}
}

// R6

func TestTheSameAgain(t *testing.T) {
	for _, g := range graphs() {
		d := dice(51)
		batches := [][]change{}
		for range 12 {
			batches = append(batches, some(&d, g.net, 5, 5))
		}
		var first [][]loc
		var want state
		for i := range 6 {
			r := New(g.net)
			var told [][]loc
			for _, l := range batches {
				if i%2 == 1 { // asking changes nothing
					stateOf(r, g.net)
					r.Clone().Update(some(&d, g.net, 5, 5))
				}
				places, _ := r.Update(l)
				told = append(told, places)
			}
			if i == 0 {
				first, want = told, stateOf(r, g.net)
			}
			if !slices.EqualFunc(told, first, slices.Equal[[]loc]) {
				t.Error(g.name, told, first)
			}
			for range 3 {
				unlike(t, r, g.net, want)
			}
		}
	}
}

// R7

func spare[T any](l []T, behind ...T) []T {
	all := append(slices.Clone(l), behind...)
	return all[:len(l)]
}

func wide[T any](l []T) []T { return l[:cap(l)] }

// overwrite writes over a list, the room behind its end too.
func overwrite[T any](l []T, mark T) {
	for i := range wide(l) {
		wide(l)[i] = mark
	}
}

func TestTheGraphIsNeitherChangedNorKept(t *testing.T) {
	for _, x := range graphs() {
		d := dice(61)
		g := net{Nodes: spare(x.Nodes, node{Kind: input}, node{Kind: capture}), Edges: spare(x.Edges, edge{From: 0, To: len(x.Nodes)}, edge{From: 0, To: 1})}
		nodes, edges := slices.Clone(wide(g.Nodes)), slices.Clone(wide(g.Edges))
		r, m := New(g), modelOf(x.net)
		follow(t, x.name, r, m, some(&d, x.net, 5, 5))
		if !slices.Equal(wide(g.Nodes), nodes) || !slices.Equal(wide(g.Edges), edges) {
			t.Error(x.name, "changed")
		}
		overwrite(g.Nodes, node{Kind: feedback, A: 1, Depth: 3})
		overwrite(g.Edges, edge{From: 0, To: 0})
		for range 6 {
			follow(t, x.name, r, m, some(&d, x.net, 5, 5))
		}
		follow(t, x.name, r.Clone(), m.clone(), some(&d, x.net, 5, 5))
	}
}

func TestChangesAreNeitherChangedNorKept(t *testing.T) {
	d := dice(63)
	for _, g := range graphs() {
		r, m := New(g.net), modelOf(g.net)
		for range 20 {
			l := spare(some(&d, g.net, 1+d.below(4), 5), more(behind(0), when(0), 1), more(at(2, 0), when(0, 0), 1))
			kept := slices.Clone(wide(l))
			follow(t, g.name, r, m, l)
			if !slices.Equal(wide(l), kept) {
				t.Error(g.name, l, "changed")
			}
			overwrite(l, more(behind(0), when(0), 1))
			agree(t, g.name, r, m)
		}
	}
}

func TestAnswersAreTheCallersOwn(t *testing.T) {
	d := dice(67)
	for _, g := range graphs() {
		r, m := New(g.net), modelOf(g.net)
		for range 10 {
			l := small(&d, g.net, 4)
			m.update(l)
			c := r.Clone()
			told := update(t, r, l...)
			first := slices.Clone(told)
			for _, x := range graph.Locs(g.net) {
				one, other := r.Frontier(x), r.Frontier(x)
				kept := slices.Clone(other)
				overwrite(one, when(0))
				if !slices.Equal(other, kept) {
					t.Error(g.name, x, "shared")
				}
			}
			overwrite(r.Counts(), more(behind(0), when(9), 9))
			agree(t, g.name, r, m)
			overwrite(told, behind(0))
			agree(t, g.name, r, m)
			// the clone from ahead of the batch tells the same of it, and shares none of the answers
			again := update(t, c, l...)
			if !slices.Equal(again, first) {
				t.Error(g.name, again, first)
			}
			for _, x := range graph.Locs(g.net) {
				overwrite(c.Frontier(x), when(0))
			}
			agree(t, g.name, r, m)
			agree(t, g.name, c, m)
		}
	}
}
