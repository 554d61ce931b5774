package valid

import (
	"math"
	"slices"
	"testing"

	"meander/api"
	"meander/graph"
	"meander/summary"
)

// The kinds, the bounds and the errors, written out, so that another number of one is found.
const (
	input    = 1
	mapped   = 2
	filter   = 3
	concat   = 4
	exchange = 5
	reduce   = 6
	windowed = 7
	enter    = 8
	leave    = 9
	feedback = 10
	capture  = 11
	out      = -1

	mostNodes = 12
	mostEdges = 24

	ok       = 0
	errBig   = 3
	errNode  = 10
	errEdge  = 11
	errDepth = 12
	errPort  = 13
	errCycle = 14
	errRoute = 15
)

type (
	node = api.Node
	edge = api.Edge
	loc  = api.Loc
	net  = api.Graph
)

// row is an Input, a Map, a Filter, an Exchange, a Reduce and a Capture, one behind the other.
func row() net {
	return net{
		Nodes: []node{{Kind: input}, {Kind: mapped, A: 1, B: 3}, {Kind: filter, A: 1, B: 9}, {Kind: exchange}, {Kind: reduce, A: 2}, {Kind: capture}},
		Edges: []edge{{From: 0, To: 1}, {From: 1, To: 2}, {From: 2, To: 3}, {From: 3, To: 4}, {From: 4, To: 5}},
	}
}

// branch is an Input whose records go three ways, of which two come together again.
func branch() net {
	return net{
		Nodes: []node{{Kind: input}, {Kind: mapped, A: 4}, {Kind: filter, A: 4}, {Kind: concat}, {Kind: capture}, {Kind: exchange}, {Kind: windowed, A: 4, B: 2}, {Kind: capture}},
		Edges: []edge{{From: 0, To: 2}, {From: 0, To: 1}, {From: 1, To: 3, Port: 1}, {From: 0, To: 5}, {From: 2, To: 3}, {From: 3, To: 4}, {From: 5, To: 6}, {From: 6, To: 7}},
	}
}

// loop is a graph with a loop from the Feedback 5 back to the Concat 2.
func loop() net {
	return net{
		Nodes: []node{{Kind: input}, {Kind: enter, Depth: 1}, {Kind: concat, Depth: 1}, {Kind: mapped, A: 1, B: 1, Depth: 1}, {Kind: exchange, Depth: 1}, {Kind: feedback, A: 2, Depth: 1}, {Kind: leave}, {Kind: capture}},
		Edges: []edge{{From: 0, To: 1}, {From: 1, To: 2}, {From: 2, To: 3}, {From: 3, To: 4}, {From: 4, To: 5}, {From: 5, To: 2, Port: 1}, {From: 4, To: 6}, {From: 6, To: 7}},
	}
}

// loops is a loop in a loop: the inner one from 6 back to 4, the outer one from 8 back to 2.
func loops() net {
	return net{
		Nodes: []node{{Kind: input}, {Kind: enter, Depth: 1}, {Kind: concat, Depth: 1}, {Kind: enter, Depth: 2}, {Kind: concat, Depth: 2}, {Kind: mapped, A: 2, B: 2, Depth: 2}, {Kind: feedback, A: 3, Depth: 2}, {Kind: leave, Depth: 1}, {Kind: feedback, A: 2, Depth: 1}, {Kind: leave}, {Kind: capture}},
		Edges: []edge{{From: 0, To: 1}, {From: 1, To: 2}, {From: 2, To: 3}, {From: 3, To: 4}, {From: 4, To: 5}, {From: 5, To: 6}, {From: 6, To: 4, Port: 1}, {From: 5, To: 7}, {From: 7, To: 8}, {From: 8, To: 2, Port: 1}, {From: 7, To: 9}, {From: 9, To: 10}},
	}
}

// again is a loop that is left and entered again: the second one is a loop of its own, at the same depth.
func again() net {
	return net{
		Nodes: []node{{Kind: input}, {Kind: enter, Depth: 1}, {Kind: concat, Depth: 1}, {Kind: feedback, A: 1, Depth: 1}, {Kind: leave}, {Kind: enter, Depth: 1}, {Kind: concat, Depth: 1}, {Kind: feedback, A: 6, Depth: 1}, {Kind: leave}, {Kind: capture}},
		Edges: []edge{{From: 0, To: 1}, {From: 1, To: 2}, {From: 2, To: 3}, {From: 3, To: 2, Port: 1}, {From: 2, To: 4}, {From: 4, To: 5}, {From: 5, To: 6}, {From: 6, To: 7}, {From: 7, To: 6, Port: 1}, {From: 6, To: 8}, {From: 8, To: 9}},
	}
}

// inAndOut is a loop of depth 1 whose way round enters a scope of depth 2 and leaves it again; with is the Feedback's depth: 1 is its own, 2 stands in the scope within.
func inAndOut(with int) net {
	nodes := []node{{Kind: input}, {Kind: enter, Depth: 1}, {Kind: concat, Depth: 1}, {Kind: enter, Depth: 2}, {Kind: exchange, Depth: 2}, {Kind: leave, Depth: 1}, {Kind: exchange, Depth: 1}}
	if with == 2 {
		nodes[4] = node{Kind: feedback, A: 1, Depth: 2}
	}
	if with == 1 {
		nodes[6] = node{Kind: feedback, A: 1, Depth: 1}
	}
	return net{Nodes: nodes, Edges: []edge{{From: 0, To: 1}, {From: 1, To: 2}, {From: 2, To: 3}, {From: 3, To: 4}, {From: 4, To: 5}, {From: 5, To: 6}, {From: 6, To: 2, Port: 1}}}
}

// outAndBack is a way round that leaves the loop of depth 1, in which its only Feedback is, and comes back.
func outAndBack() net {
	return net{
		Nodes: []node{{Kind: concat}, {Kind: enter, Depth: 1}, {Kind: feedback, A: 1, Depth: 1}, {Kind: leave}, {Kind: input}},
		Edges: []edge{{From: 4, To: 0}, {From: 0, To: 1}, {From: 1, To: 2}, {From: 2, To: 3}, {From: 3, To: 0, Port: 1}},
	}
}

// twoWays is two ways round through the Concat 2: one over the node 4, one over the node 5.
func twoWays(a, b node) net {
	return net{
		Nodes: []node{{Kind: input}, {Kind: enter, Depth: 1}, {Kind: concat, Depth: 1}, {Kind: concat, Depth: 1}, a, b},
		Edges: []edge{{From: 0, To: 1}, {From: 1, To: 2}, {From: 2, To: 4}, {From: 2, To: 5}, {From: 4, To: 3}, {From: 5, To: 3, Port: 1}, {From: 3, To: 2, Port: 1}},
	}
}

// ring is nodes of one input each, each one behind the other, the first behind the last: no other node leads there.
func ring(nodes ...node) net {
	g := net{Nodes: nodes}
	for i := range nodes {
		g.Edges = append(g.Edges, edge{From: i, To: (i + 1) % len(nodes)})
	}
	return g
}

// full is as many nodes as may be, one of them a Feedback, the others Concats that it feeds: no graph that may run has more edges.
func full() net {
	g := net{Nodes: []node{{Kind: feedback, A: 6, Depth: 1}}, Edges: []edge{{From: 1, To: 0}}}
	for i := 1; i < mostNodes; i++ {
		g.Nodes = append(g.Nodes, node{Kind: concat, Depth: 1})
		g.Edges = append(g.Edges, edge{From: 0, To: i}, edge{From: 0, To: i, Port: 1})
	}
	return g
}

func inputs(n int) net {
	g := net{}
	for range n {
		g.Nodes = append(g.Nodes, node{Kind: input})
	}
	return g
}

// many is a graph of rows of all kinds, and others, of all depths, with edges to and from nodes beyond it.
func many(nodes, edges int) net {
	g := net{}
	for i := range nodes {
		g.Nodes = append(g.Nodes, node{Kind: i%15 - 1, Depth: i%6 - 1, A: i, B: -i})
	}
	for i := range edges {
		g.Edges = append(g.Edges, edge{From: i*7%(nodes+4) - 2, To: i*11%(nodes+4) - 2, Port: i%5 - 2})
	}
	return g
}

// runs is graphs that may run, by what they are.
func runs() map[string]net {
	return map[string]net{
		"a row":                          row(),
		"a branch":                       branch(),
		"a loop":                         loop(),
		"a loop in a loop":               loops(),
		"a loop that is entered again":   again(),
		"a feedback of its own depth":    inAndOut(1),
		"two ways, each with a feedback": twoWays(node{Kind: feedback, A: 1, Depth: 1}, node{Kind: feedback, A: 2, Depth: 1}),
		"as many edges as may be":        full(),
		"an Input":                       inputs(1),
		"Inputs alone":                   inputs(mostNodes),
		"a Feedback to itself":           ring(node{Kind: feedback, A: 1, Depth: 3}),
		"two Feedbacks":                  ring(node{Kind: feedback, A: 1, Depth: 1}, node{Kind: feedback, A: 1, Depth: 1}),
		"a ring in a scope":              ring(node{Kind: feedback, A: 1, Depth: 2}, node{Kind: exchange, Depth: 2}),
		"an outer Feedback around inner": ring(node{Kind: feedback, A: 1, Depth: 1}, node{Kind: enter, Depth: 2}, node{Kind: feedback, A: 1, Depth: 2}, node{Kind: enter, Depth: 3}, node{Kind: leave, Depth: 2}, node{Kind: leave, Depth: 1}),
	}
}

// rounds is graphs that have nothing wrong but a way round without a feedback of its own depth.
func rounds() map[string]net {
	return map[string]net{
		"no feedback":                       inAndOut(0),
		"a feedback of a depth within":      inAndOut(2),
		"out of the loop, and back":         outAndBack(),
		"one way of two, the second":        twoWays(node{Kind: feedback, A: 1, Depth: 1}, node{Kind: exchange, Depth: 1}),
		"one way of two, the first":         twoWays(node{Kind: exchange, Depth: 1}, node{Kind: feedback, A: 1, Depth: 1}),
		"an Exchange to itself":             ring(node{Kind: exchange}),
		"an Exchange to itself, in a scope": ring(node{Kind: exchange, Depth: 3}),
		"a Concat to itself":                {Nodes: []node{{Kind: input}, {Kind: concat}}, Edges: []edge{{From: 0, To: 1}, {From: 1, To: 1, Port: 1}}},
		"a ring that is led to by nobody":   {Nodes: append(row().Nodes, node{Kind: exchange}, node{Kind: mapped, A: 4}), Edges: append(row().Edges, edge{From: 6, To: 7}, edge{From: 7, To: 6})},
		"an Enter and a Leave alone":        ring(node{Kind: enter, Depth: 1}, node{Kind: leave}),
		"the same of greater depth":         ring(node{Kind: leave, Depth: 2}, node{Kind: enter, Depth: 3}),
		"feedbacks of two depths within":    ring(node{Kind: enter, Depth: 2}, node{Kind: feedback, A: 1, Depth: 2}, node{Kind: enter, Depth: 3}, node{Kind: feedback, A: 1, Depth: 3}, node{Kind: leave, Depth: 2}, node{Kind: leave, Depth: 1}),
		"a ring of a Reduce":                ring(node{Kind: exchange}, node{Kind: reduce, A: 1}),
		"a ring of a Window":                ring(node{Kind: exchange}, node{Kind: windowed, A: 1, B: 1}),
		"as many edges as there may be": func() net {
			g := full()
			g.Nodes[0] = node{Kind: concat, Depth: 1}
			g.Edges = append(g.Edges, edge{From: 2, To: 0, Port: 1})
			return g
		}(),
		"the inner way of two": func() net {
			g := loops()
			g.Nodes[6] = node{Kind: filter, A: 4, Depth: 2}
			return g
		}(),
		"the outer way of two": func() net {
			g := loops()
			g.Nodes[8] = node{Kind: filter, A: 4, Depth: 1}
			return g
		}(),
	}
}

// wrong is graphs that are not asked for ways round, as something else keeps them from running.
func wrong() map[string]net {
	return map[string]net{
		"nothing":        {},
		"no nodes":       {Nodes: []node{}, Edges: loop().Edges},
		"nodes alone":    {Nodes: loop().Nodes},
		"many":           many(300, 900),
		"some":           many(12, 24),
		"Inputs":         inputs(13),
		"a node of none": ring(node{}),
	}
}

func clone(g net) net {
	return net{Nodes: slices.Clone(g.Nodes), Edges: slices.Clone(g.Edges)}
}

// far is numbers that are far from any bound.
func far() []int {
	return []int{math.MinInt, math.MinInt + 1, -1 << 40, 1 << 40, math.MaxInt - 1, math.MaxInt}
}

// within tells whether n is from low to high.
func within(n, low, high int) bool {
	return n >= low && n <= high
}

// mayBe is P9.1 word by word.
func mayBe(n node) bool {
	if !within(n.Depth, 0, 3) {
		return false
	}
	switch n.Kind {
	case input, capture:
		return n.Depth == 0 && n.A == 0 && n.B == 0
	case mapped:
		return within(n.A, 1, 5) && within(n.B, -1000, 1000) && (n.A != 3 || n.B >= 1)
	case filter:
		return within(n.A, 1, 4) && within(n.B, -1000, 1000) && (n.A != 3 || n.B >= 1)
	case concat, exchange:
		return n.A == 0 && n.B == 0
	case reduce:
		return within(n.A, 1, 4) && n.B == 0
	case windowed:
		return n.Depth == 0 && within(n.A, 1, 20) && within(n.B, 1, n.A)
	case enter:
		return n.Depth > 0 && n.A == 0 && n.B == 0
	case leave:
		return n.Depth < 3 && n.A == 0 && n.B == 0
	case feedback:
		return n.Depth > 0 && within(n.A, 1, 6) && n.B == 0
	}
	return false
}

// insOf, outOf and inDepth are what chapter 8 tells of kinds and nodes, written out again.
func insOf(kind int) int {
	if kind == concat {
		return 2
	}
	if within(kind, mapped, capture) {
		return 1
	}
	return 0
}

func outOf(g net, i int) bool {
	return within(i, 0, len(g.Nodes)-1) && within(g.Nodes[i].Kind, input, feedback)
}

func isIn(g net, e edge) bool {
	return within(e.To, 0, len(g.Nodes)-1) && within(e.Port, 0, insOf(g.Nodes[e.To].Kind)-1)
}

func inDepth(n node) int {
	switch n.Kind {
	case enter:
		return n.Depth - 1
	case leave:
		return n.Depth + 1
	}
	return n.Depth
}

func lowOf(n node) int {
	return min(inDepth(n), n.Depth)
}

func badEdge(g net) bool {
	for _, e := range g.Edges {
		if !outOf(g, e.From) || !isIn(g, e) {
			return true
		}
	}
	return false
}

func badDepth(g net) bool {
	for _, e := range g.Edges {
		if outOf(g, e.From) && isIn(g, e) && g.Nodes[e.From].Depth != inDepth(g.Nodes[e.To]) {
			return true
		}
	}
	return false
}

func badPort(g net) bool {
	for i, n := range g.Nodes {
		for port := range insOf(n.Kind) {
			there := 0
			for _, e := range g.Edges {
				if e.To == i && e.Port == port {
					there++
				}
			}
			if there != 1 {
				return true
			}
		}
	}
	return false
}

func badRoute(g net) bool {
	for _, e := range g.Edges {
		if outOf(g, e.From) && isIn(g, e) && (g.Nodes[e.To].Kind == reduce || g.Nodes[e.To].Kind == windowed) && g.Nodes[e.From].Kind != exchange {
			return true
		}
	}
	return false
}

// badCycle asks of each v by what leads where in some steps, through nodes that the chapter names alone.
func badCycle(g net) bool {
	many := len(g.Nodes)
	for v, n := range g.Nodes {
		if n.Kind == feedback {
			continue
		}
		through := func(i int) bool {
			x := g.Nodes[i]
			return lowOf(x) >= lowOf(n) && !(x.Kind == feedback && x.Depth == lowOf(n))
		}
		leads := make([][]bool, many)
		for i := range leads {
			leads[i] = make([]bool, many)
		}
		for _, e := range g.Edges {
			if outOf(g, e.From) && isIn(g, e) && through(e.From) && through(e.To) {
				leads[e.From][e.To] = true
			}
		}
		for k := range many {
			for i := range many {
				for j := range many {
					leads[i][j] = leads[i][j] || leads[i][k] && leads[k][j]
				}
			}
		}
		if leads[v][v] {
			return true
		}
	}
	return false
}

type asked struct {
	err api.Errno
	bad func(g net) bool
}

// rulesAgain is P9.2 word by word, in its order.
func rulesAgain() []asked {
	return []asked{
		{errBig, func(g net) bool { return len(g.Nodes) < 1 || len(g.Nodes) > 12 || len(g.Edges) > 24 }},
		{errNode, func(g net) bool { return slices.ContainsFunc(g.Nodes, func(n node) bool { return !mayBe(n) }) }},
		{errEdge, badEdge},
		{errDepth, badDepth},
		{errPort, badPort},
		{errRoute, badRoute},
		{errCycle, badCycle},
	}
}

func answer(g net) api.Errno {
	for _, r := range rulesAgain() {
		if r.bad(g) {
			return r.err
		}
	}
	return ok
}

// eachRound tells visit what each walk of at most steps edges does that comes back to its beginning; a walk whose numbers go over is left out, as it does not do less again.
func eachRound(g net, steps int, visit func(done api.Summary, at int)) {
	for i, n := range g.Nodes {
		if !graph.HasOut(n.Kind) {
			continue
		}
		walk(g, i, i, summary.Same(n.Depth), steps, visit)
	}
}

// walk goes on from the output of at; the walk began at the output of begin.
func walk(g net, begin, at int, done api.Summary, steps int, visit func(done api.Summary, at int)) {
	if steps == 0 {
		return
	}
	for _, l := range graph.Next(g, at) {
		n := g.Nodes[l.Node]
		if !graph.HasOut(n.Kind) {
			continue
		}
		if l.Node == begin { // the same walk, begun at the input that it comes in by
			if sum, e := summary.Then(graph.Inner(n), done); e == ok {
				visit(sum, l.Node)
			}
		}
		sum, e := summary.Then(done, graph.Inner(n))
		if e != ok {
			continue
		}
		if l.Node == begin {
			visit(sum, l.Node)
		}
		walk(g, begin, l.Node, sum, steps-1, visit)
	}
}

// idles tells whether a walk of at most steps edges comes back to its beginning and does nothing, or less.
func idles(g net, steps int) bool {
	idle := false
	eachRound(g, steps, func(done api.Summary, at int) {
		idle = idle || summary.LessEq(done, summary.Same(done.From))
	})
	return idle
}

// wired gives visit each graph of the nodes in which each input has an edge from a node of the depth that it asks for.
func wired(nodes []node, visit func(g net)) {
	var ins []loc
	for i, n := range nodes {
		for port := range insOf(n.Kind) {
			ins = append(ins, loc{Node: i, Port: port})
		}
	}
	edges := make([]edge, len(ins))
	var from func(k int)
	from = func(k int) {
		if k == len(ins) {
			visit(net{Nodes: nodes, Edges: edges})
			return
		}
		for i, n := range nodes {
			if n.Kind != capture && n.Depth == inDepth(nodes[ins[k].Node]) {
				edges[k] = edge{From: i, To: ins[k].Node, Port: ins[k].Port}
				from(k + 1)
			}
		}
	}
	from(0)
}

// parts is the nodes that the small graphs are made of.
func parts() []node {
	return []node{
		{Kind: exchange}, {Kind: exchange, Depth: 1}, {Kind: exchange, Depth: 2},
		{Kind: enter, Depth: 1}, {Kind: enter, Depth: 2}, {Kind: leave}, {Kind: leave, Depth: 1},
		{Kind: feedback, A: 1, Depth: 1}, {Kind: feedback, A: 1, Depth: 2},
		{Kind: concat}, {Kind: concat, Depth: 1}, {Kind: concat, Depth: 2},
	}
}

// eachSmall gives visit each graph of up to most nodes out of parts, of which up to concats are Concats.
func eachSmall(most, concats int, visit func(g net)) {
	var nodes []node
	var more func(least, left int)
	more = func(least, left int) {
		if len(nodes) > 0 {
			wired(nodes, visit)
		}
		if len(nodes) == most {
			return
		}
		for i := least; i < len(parts()); i++ {
			n := parts()[i]
			if n.Kind == concat && left == 0 {
				continue
			}
			nodes = append(nodes, n)
			if n.Kind == concat {
				more(i, left-1)
			} else {
				more(i, left)
			}
			nodes = nodes[:len(nodes)-1]
		}
	}
	more(0, concats)
}

// dice is a row of numbers that is the same each time.
type dice uint64

func (d *dice) below(n int) int {
	*d = *d*6364136223846793005 + 1442695040888963407
	return int(uint64(*d)>>33) % n
}

// thrown is a graph of up to 12 nodes of all kinds, whose inputs have one edge each, mostly of the right depth.
func thrown(d *dice) net {
	g := net{}
	for range 1 + d.below(mostNodes) {
		n := parts()[d.below(len(parts()))]
		if d.below(8) == 0 {
			n = []node{{Kind: input}, {Kind: mapped, A: 1, Depth: d.below(4)}, {Kind: filter, A: 4, Depth: d.below(4)}, {Kind: reduce, A: 1, Depth: d.below(4)}, {Kind: windowed, A: 2, B: 1}, {Kind: capture}, {Kind: enter, Depth: 3}, {Kind: leave, Depth: 2}, {Kind: feedback, A: 6, Depth: 3}}[d.below(9)]
		}
		g.Nodes = append(g.Nodes, n)
	}
	for i, n := range g.Nodes {
		for port := range insOf(n.Kind) {
			var from []int
			for j, m := range g.Nodes {
				if m.Kind != capture && m.Depth == inDepth(n) {
					from = append(from, j)
				}
			}
			if len(from) > 0 {
				g.Edges = append(g.Edges, edge{From: from[d.below(len(from))], To: i, Port: port})
			}
		}
	}
	return g
}

func nodeNumbers() []int {
	l := append(far(), -1001, -1000, -999, 999, 1000, 1001, 19, 20, 21)
	for n := -2; n < 9; n++ {
		l = append(l, n)
	}
	return l
}

// P9.1

func TestNodeOfEachKind(t *testing.T) {
	for _, x := range []struct {
		n   node
		may bool
	}{
		{node{Kind: input}, true}, {node{Kind: input, Depth: 1}, false}, {node{Kind: input, A: 1}, false}, {node{Kind: input, B: 1}, false}, {node{Kind: input, A: -1}, false},
		{node{Kind: mapped, A: 1, B: -1000}, true}, {node{Kind: mapped, A: 5, B: 1000, Depth: 3}, true}, {node{Kind: mapped, A: 3, B: 1}, true}, {node{Kind: mapped, A: 3}, false}, {node{Kind: mapped}, false}, {node{Kind: mapped, A: 6}, false}, {node{Kind: mapped, A: 1, B: 1001}, false}, {node{Kind: mapped, A: 1, Depth: 4}, false},
		{node{Kind: filter, A: 4, B: -1000}, true}, {node{Kind: filter, A: 3, B: 1000, Depth: 3}, true}, {node{Kind: filter, A: 3}, false}, {node{Kind: filter, A: 5, B: 1}, false}, {node{Kind: filter}, false}, {node{Kind: filter, A: 4, B: -1001}, false},
		{node{Kind: concat}, true}, {node{Kind: concat, Depth: 3}, true}, {node{Kind: concat, A: 1}, false}, {node{Kind: concat, B: 1}, false}, {node{Kind: concat, Depth: 4}, false}, {node{Kind: concat, Depth: -1}, false},
		{node{Kind: exchange}, true}, {node{Kind: exchange, Depth: 3}, true}, {node{Kind: exchange, A: 1}, false}, {node{Kind: exchange, B: -1}, false},
		{node{Kind: reduce, A: 1}, true}, {node{Kind: reduce, A: 4, Depth: 3}, true}, {node{Kind: reduce}, false}, {node{Kind: reduce, A: 5}, false}, {node{Kind: reduce, A: 1, B: 1}, false},
		{node{Kind: windowed, A: 4, B: 2}, true}, {node{Kind: windowed, A: 20, B: 20}, true}, {node{Kind: windowed, A: 1, B: 1}, true}, {node{Kind: windowed, A: 21, B: 1}, false}, {node{Kind: windowed, A: 4, B: 5}, false}, {node{Kind: windowed, A: 4}, false}, {node{Kind: windowed, A: 4, B: 2, Depth: 1}, false},
		{node{Kind: enter, Depth: 1}, true}, {node{Kind: enter, Depth: 3}, true}, {node{Kind: enter}, false}, {node{Kind: enter, Depth: 4}, false}, {node{Kind: enter, Depth: 1, A: 1}, false}, {node{Kind: enter, Depth: 1, B: 1}, false},
		{node{Kind: leave}, true}, {node{Kind: leave, Depth: 2}, true}, {node{Kind: leave, Depth: 3}, false}, {node{Kind: leave, Depth: -1}, false}, {node{Kind: leave, A: 1}, false}, {node{Kind: leave, B: 1}, false},
		{node{Kind: feedback, A: 1, Depth: 1}, true}, {node{Kind: feedback, A: 6, Depth: 3}, true}, {node{Kind: feedback, A: 1}, false}, {node{Kind: feedback, Depth: 1}, false}, {node{Kind: feedback, A: 7, Depth: 1}, false}, {node{Kind: feedback, A: -1, Depth: 1}, false}, {node{Kind: feedback, A: 1, B: 1, Depth: 1}, false}, {node{Kind: feedback, A: 1, Depth: 4}, false},
		{node{Kind: capture}, true}, {node{Kind: capture, Depth: 1}, false}, {node{Kind: capture, A: 1}, false}, {node{Kind: capture, B: 1}, false},
		{node{}, false}, {node{Kind: 12}, false}, {node{Kind: -1}, false}, {node{Kind: -5}, false},
	} {
		if Node(x.n) != x.may {
			t.Errorf("Node(%+v) = %v", x.n, !x.may)
		}
	}
}

func TestNodeOfAllNumbers(t *testing.T) {
	kinds := append(far(), -2, -1, 0, 1, 2, 3, 4, 5, 6, 7, 8, 9, 10, 11, 12, 13)
	depths := append(far(), -2, -1, 0, 1, 2, 3, 4, 5)
	for _, kind := range kinds {
		for _, depth := range depths {
			for _, a := range nodeNumbers() {
				for _, b := range nodeNumbers() {
					n := node{Kind: kind, A: a, B: b, Depth: depth}
					if Node(n) != mayBe(n) {
						t.Fatalf("Node(%+v) = %v", n, Node(n))
					}
				}
			}
		}
	}
}

// P9.2

func TestExamples(t *testing.T) {
	g := net{Nodes: []node{{Kind: input}, {Kind: capture}}, Edges: []edge{{From: 0, To: 1}}}
	if e := Graph(g); e != ok {
		t.Error(e)
	}
	g.Edges = nil
	if e := Graph(g); e != errPort {
		t.Error(e)
	}
}

func TestGraphsThatMayRun(t *testing.T) {
	for name, g := range runs() {
		if e := Graph(g); e != ok {
			t.Error(name, e)
		}
	}
}

func TestRoundsWithoutFeedback(t *testing.T) {
	for name, g := range rounds() {
		if e := Graph(g); e != errCycle {
			t.Error(name, e)
		}
	}
}

func TestHowManyNodesAndEdges(t *testing.T) {
	padded := func(g net, edges int) net {
		for len(g.Edges) < edges {
			g.Edges = append(g.Edges, edge{From: 0, To: 1})
		}
		return g
	}
	for i, x := range []struct {
		g net
		e api.Errno
	}{
		{net{}, errBig},
		{net{Nodes: []node{}, Edges: []edge{}}, errBig},
		{net{Edges: []edge{{From: 0, To: 0}}}, errBig},
		{inputs(1), ok},
		{inputs(12), ok},
		{inputs(13), errBig},
		{net{Nodes: []node{{Kind: capture}}}, errPort},
		{padded(net{Nodes: []node{{Kind: input}, {Kind: capture}}}, 24), errPort},
		{padded(net{Nodes: []node{{Kind: input}, {Kind: capture}}}, 25), errBig},
		{padded(inputs(12), 24), errEdge},
		{padded(inputs(12), 25), errBig},
		{padded(inputs(13), 25), errBig},
		{full(), ok},
		{padded(full(), 24), errPort},
		{padded(full(), 25), errBig},
		{rounds()["as many edges as there may be"], errCycle},
		{many(12, 24), errNode},
		{many(13, 24), errBig},
		{many(12, 25), errBig},
		{many(5000, 20000), errBig},
		{net{Nodes: make([]node, 100000)}, errBig},
		{net{Nodes: inputs(1).Nodes, Edges: make([]edge, 100000)}, errBig},
	} {
		if e := Graph(x.g); e != x.e {
			t.Error(i, e)
		}
	}
}

func TestNodesThatMayNotBe(t *testing.T) {
	for i := range loops().Nodes {
		for _, n := range []node{{}, {Kind: 12}, {Kind: -1}, {Kind: mapped}, {Kind: enter}, {Kind: leave, Depth: 3}, {Kind: exchange, Depth: 4}, {Kind: exchange, B: 1}, {Kind: windowed, A: 1, B: 1, Depth: 1}} {
			g := loops()
			g.Nodes[i] = n
			if e := Graph(g); e != errNode {
				t.Error(i, n, e)
			}
		}
	}
}

func TestEdgesThatMayNotBe(t *testing.T) {
	beyond := append(far(), -2, -1, 8, 9)
	for i, sound := range loop().Edges {
		var spoilt []edge
		for _, x := range beyond {
			spoilt = append(spoilt, edge{From: x, To: sound.To, Port: sound.Port}, edge{From: sound.From, To: x, Port: sound.Port})
		}
		for _, x := range append(far(), -2, -1, 2, 3) {
			spoilt = append(spoilt, edge{From: sound.From, To: sound.To, Port: x})
		}
		if loop().Nodes[sound.To].Kind != concat {
			spoilt = append(spoilt, edge{From: sound.From, To: sound.To, Port: 1})
		}
		for port := -1; port < 2; port++ {
			spoilt = append(spoilt, edge{From: 7, To: sound.To, Port: sound.Port}, edge{From: sound.From, To: 0, Port: port})
		}
		for _, e := range spoilt {
			g := loop()
			g.Edges[i] = e
			if err := Graph(g); err != errEdge {
				t.Error("in the place of", i, e, err)
			}
			g = loop()
			g.Edges = append(g.Edges, e)
			if err := Graph(g); err != errEdge {
				t.Error("beside the others", e, err)
			}
		}
	}
}

func TestEdgesBetweenDepths(t *testing.T) {
	// from a node of each depth to one of each kind and depth
	sources := []node{{Kind: input}, {Kind: exchange, Depth: 1}, {Kind: exchange, Depth: 2}, {Kind: exchange, Depth: 3}}
	ends := []node{{Kind: capture}, {Kind: windowed, A: 1, B: 1}}
	for depth := range 4 {
		ends = append(ends, node{Kind: mapped, A: 1, Depth: depth}, node{Kind: filter, A: 1, Depth: depth}, node{Kind: concat, Depth: depth}, node{Kind: exchange, Depth: depth}, node{Kind: reduce, A: 1, Depth: depth})
		if depth > 0 {
			ends = append(ends, node{Kind: enter, Depth: depth}, node{Kind: feedback, A: 1, Depth: depth})
		}
		if depth < 3 {
			ends = append(ends, node{Kind: leave, Depth: depth})
		}
	}
	for _, a := range sources {
		for _, b := range ends {
			g := net{Nodes: []node{a, b}, Edges: []edge{{From: 0, To: 1}}}
			apart := a.Depth != inDepth(b)
			if e := Graph(g); (e == errDepth) != apart {
				t.Error(a, b, e)
			}
		}
	}
	for i, x := range []net{
		{Nodes: []node{{Kind: input}, {Kind: enter, Depth: 2}}, Edges: []edge{{From: 0, To: 1}}},
		{Nodes: []node{{Kind: input}, {Kind: leave}}, Edges: []edge{{From: 0, To: 1}}},
		{Nodes: []node{{Kind: input}, {Kind: enter, Depth: 1}, {Kind: capture}}, Edges: []edge{{From: 0, To: 1}, {From: 1, To: 2}}},
		{Nodes: []node{{Kind: input}, {Kind: enter, Depth: 1}, {Kind: leave, Depth: 1}}, Edges: []edge{{From: 0, To: 1}, {From: 1, To: 2}}},
		{Nodes: []node{{Kind: input}, {Kind: enter, Depth: 1}, {Kind: enter, Depth: 1}}, Edges: []edge{{From: 0, To: 1}, {From: 1, To: 2}}},
	} {
		if e := Graph(x); e != errDepth {
			t.Error(i, e)
		}
	}
}

func TestInputsOfOneEdge(t *testing.T) {
	for name, g := range runs() {
		for i, gone := range g.Edges {
			less := clone(g)
			less.Edges = slices.Delete(less.Edges, i, i+1)
			if e := Graph(less); e != errPort {
				t.Error(name, "without", gone, e)
			}
			if len(g.Edges) < mostEdges {
				more := clone(g)
				more.Edges = append(more.Edges, gone)
				if e := Graph(more); e != errPort {
					t.Error(name, "twice", gone, e)
				}
			}
		}
	}
	both := net{Nodes: []node{{Kind: input}, {Kind: input}, {Kind: concat}}, Edges: []edge{{From: 0, To: 2, Port: 1}, {From: 1, To: 2, Port: 0}}}
	if e := Graph(both); e != ok {
		t.Error("a Concat with its two", e)
	}
	for port := range 2 {
		one := net{Nodes: both.Nodes, Edges: []edge{both.Edges[port]}}
		if e := Graph(one); e != errPort {
			t.Error("a Concat with one of its two", e)
		}
		same := net{Nodes: both.Nodes, Edges: []edge{{From: 0, To: 2, Port: port}, {From: 1, To: 2, Port: port}}}
		if e := Graph(same); e != errPort {
			t.Error("a Concat with two at one input", e)
		}
	}
	twice := net{Nodes: []node{{Kind: input}, {Kind: concat}}, Edges: []edge{{From: 0, To: 1}, {From: 0, To: 1, Port: 1}}}
	if e := Graph(twice); e != ok {
		t.Error("one Input at both inputs of a Concat", e)
	}
}

// behind is a graph in which the node last has its input from the node ahead, of each of whose inputs the edge comes from where it may.
func behind(ahead, last node) net {
	g := net{Nodes: []node{{Kind: input}, {Kind: exchange}, {Kind: enter, Depth: 1}, {Kind: exchange, Depth: 1}, ahead, last}}
	g.Edges = []edge{{From: 0, To: 1}, {From: 1, To: 2}, {From: 2, To: 3}, {From: 4, To: 5}}
	from := 1
	if inDepth(ahead) == 1 {
		from = 3
	}
	for port := range insOf(ahead.Kind) {
		g.Edges = append(g.Edges, edge{From: from, To: 4, Port: port})
	}
	return g
}

func TestRoutes(t *testing.T) {
	for _, last := range []node{{Kind: reduce, A: 1}, {Kind: windowed, A: 2, B: 1}, {Kind: reduce, A: 4, Depth: 1}, {Kind: mapped, A: 1}, {Kind: capture}} {
		for _, ahead := range []node{
			{Kind: input}, {Kind: mapped, A: 1, Depth: last.Depth}, {Kind: filter, A: 1, Depth: last.Depth}, {Kind: concat, Depth: last.Depth}, {Kind: exchange, Depth: last.Depth},
			{Kind: reduce, A: 1, Depth: last.Depth}, {Kind: windowed, A: 1, B: 1}, {Kind: enter, Depth: 1}, {Kind: leave}, {Kind: feedback, A: 1, Depth: 1}, {Kind: capture},
		} {
			want := api.Errno(ok)
			switch {
			case ahead.Kind == capture:
				want = errEdge
			case ahead.Depth != last.Depth:
				want = errDepth
			case ahead.Kind != exchange && (last.Kind == reduce || last.Kind == windowed):
				want = errRoute
			}
			if e := Graph(behind(ahead, last)); e != want {
				t.Error(ahead, last, e, want)
			}
		}
	}
}

func TestOwnDepthOfAFeedback(t *testing.T) {
	// a way round at each depth, with a Feedback of each depth on it, to which Enters or Leaves lead as they must
	for depth := 0; depth < 4; depth++ {
		for fed := 1; fed < 4; fed++ {
			nodes := []node{{Kind: mapped, A: 1, Depth: depth}}
			for d := depth + 1; d <= fed; d++ {
				nodes = append(nodes, node{Kind: enter, Depth: d})
			}
			for d := depth - 1; d >= fed; d-- {
				nodes = append(nodes, node{Kind: leave, Depth: d})
			}
			nodes = append(nodes, node{Kind: feedback, A: 1, Depth: fed})
			for d := fed - 1; d >= depth; d-- {
				nodes = append(nodes, node{Kind: leave, Depth: d})
			}
			for d := fed + 1; d <= depth; d++ {
				nodes = append(nodes, node{Kind: enter, Depth: d})
			}
			want := api.Errno(errCycle)
			if fed <= depth { // the way's lowest depth is the Feedback's
				want = ok
			}
			if e := Graph(ring(nodes...)); e != want {
				t.Error(depth, fed, e)
			}
		}
	}
}

// base has nothing wrong, and room for each fault of TestFirstOfTwoErrors.
func base() net {
	g := loop()
	g.Nodes = append(g.Nodes[:7], node{Kind: exchange}, node{Kind: reduce, A: 2}, node{Kind: capture})
	g.Edges = append(g.Edges, edge{From: 7, To: 8}, edge{From: 8, To: 9})
	return g
}

func TestFirstOfTwoErrors(t *testing.T) {
	spoil := []func(g *net){
		func(g *net) { g.Nodes = append(g.Nodes, inputs(3).Nodes...) },
		func(g *net) { g.Nodes[3].B = 2000 },
		func(g *net) { g.Edges = append(g.Edges, edge{From: 9, To: 0}) },
		func(g *net) { g.Edges[6].From = 0 },
		func(g *net) { g.Edges = append(g.Edges, g.Edges[0]) },
		func(g *net) { g.Edges[8].From = 6 },
		func(g *net) { g.Nodes[5] = node{Kind: exchange, Depth: 1} },
	}
	if e := Graph(base()); e != ok {
		t.Fatal(e)
	}
	for i, first := range rulesAgain() {
		for j := i; j < len(spoil); j++ {
			g := base()
			spoil[i](&g)
			if j > i {
				spoil[j](&g)
			}
			for k, r := range rulesAgain() {
				if r.bad(g) != (k == i || k == j) {
					t.Fatal("not the faults that were meant", i, j, k)
				}
			}
			if e := Graph(g); e != first.err {
				t.Error(first.err, rulesAgain()[j].err, e)
			}
		}
	}
}

func TestNumbersFarAway(t *testing.T) {
	for _, x := range far() {
		for i := range base().Nodes {
			for k := range 4 {
				g := base()
				n := &g.Nodes[i]
				*[]*int{&n.Kind, &n.A, &n.B, &n.Depth}[k] = x
				if e := Graph(g); e != errNode {
					t.Error("node", i, k, x, e)
				}
			}
		}
		for i := range base().Edges {
			for k := range 3 {
				g := base()
				e := &g.Edges[i]
				*[]*int{&e.From, &e.To, &e.Port}[k] = x
				if err := Graph(g); err != errEdge {
					t.Error("edge", i, k, x, err)
				}
			}
		}
	}
}

// some is all graphs that are named here.
func some() []net {
	l := []net{base()}
	for _, kind := range []map[string]net{runs(), rounds(), wrong()} {
		for _, g := range kind {
			l = append(l, g)
		}
	}
	return l
}

func TestOneNumberOff(t *testing.T) {
	hold := func(g net) {
		if e, want := Graph(g), answer(g); e != want {
			t.Fatal(g, e, want)
		}
	}
	for _, sound := range some() {
		if len(sound.Nodes) > 20 {
			continue
		}
		for i := range sound.Nodes {
			for k := range 4 {
				for x := -1; x < 13; x++ {
					g := clone(sound)
					n := &g.Nodes[i]
					*[]*int{&n.Kind, &n.A, &n.B, &n.Depth}[k] = x
					hold(g)
				}
			}
		}
		for i := range sound.Edges {
			for k := range 3 {
				for x := -2; x < 14; x++ {
					g := clone(sound)
					e := &g.Edges[i]
					*[]*int{&e.From, &e.To, &e.Port}[k] = x
					hold(g)
				}
			}
		}
	}
}

func TestTheOrderOfTheEdges(t *testing.T) {
	d := dice(1)
	for _, g := range some() {
		want := Graph(g)
		for range 20 {
			h := clone(g)
			for i := range h.Edges {
				j := i + d.below(len(h.Edges)-i)
				h.Edges[i], h.Edges[j] = h.Edges[j], h.Edges[i]
			}
			if e := Graph(h); e != want {
				t.Fatal(h, e, want)
			}
		}
	}
}

func TestTheOrderOfTheNodes(t *testing.T) {
	for _, g := range some() {
		h := clone(g)
		slices.Reverse(h.Nodes)
		for i, e := range h.Edges {
			h.Edges[i] = edge{From: len(h.Nodes) - 1 - e.From, To: len(h.Nodes) - 1 - e.To, Port: e.Port}
		}
		if Graph(g) != Graph(h) {
			t.Fatal(g, Graph(g), Graph(h))
		}
	}
}

func TestThrownGraphs(t *testing.T) {
	d := dice(2)
	many := map[api.Errno]int{}
	for range 40000 {
		g := thrown(&d)
		e := Graph(g)
		if want := answer(g); e != want {
			t.Fatal(g, e, want)
		}
		many[e]++
	}
	for _, e := range []api.Errno{ok, errPort, errCycle, errRoute} {
		if many[e] < 100 {
			t.Error("too few of", e, many[e])
		}
	}
}

// P9.3

func TestSmallGraphs(t *testing.T) {
	accepted, refused := 0, 0
	hold := func(g net) {
		e := Graph(g)
		if want := answer(g); e != want {
			t.Fatal(g, e, want)
		}
		// a way round that idles needs to pass no node twice, so that walks of as many edges as nodes show it
		if idles(g, len(g.Nodes)+1) != (e == errCycle) {
			t.Fatal(g, e)
		}
		if e == ok {
			accepted++
		} else {
			refused++
		}
	}
	eachSmall(4, 1, hold)
	eachSmall(3, 3, hold)
	if accepted < 500 || refused < 500 {
		t.Error(accepted, refused)
	}
}

func TestNoWayRoundIdles(t *testing.T) {
	for name, g := range runs() {
		if name != "as many edges as may be" && idles(g, 14) {
			t.Error(name)
		}
	}
	if idles(full(), 5) {
		t.Error("as many edges as may be")
	}
	for name, g := range rounds() {
		if name != "as many edges as there may be" && !idles(g, 12) {
			t.Error(name)
		}
	}
	d := dice(3)
	for range 3000 {
		g := thrown(&d)
		if e := Graph(g); (e == ok || e == errCycle) && idles(g, 5) && e == ok {
			t.Fatal(g)
		}
	}
}

// R1

func TestEachCallEnds(t *testing.T) {
	for _, g := range some() {
		Graph(g)
	}
	numbers := append(far(), -1, 0, 1, 5, 10)
	for _, x := range numbers {
		for _, y := range numbers {
			for kind := -1; kind < 13; kind++ {
				Graph(net{Nodes: []node{{Kind: kind, A: x, B: y, Depth: x}}, Edges: []edge{{From: x, To: y, Port: y}}})
				Graph(net{Nodes: []node{{Kind: kind, A: x, Depth: y}, {Kind: exchange}}, Edges: []edge{{From: y, To: x, Port: 0}, {From: 1, To: 1, Port: x}}})
			}
		}
	}
}

// R6

func TestTheSameAgain(t *testing.T) {
	for _, g := range some() {
		first := Graph(g)
		for _, other := range some() {
			Graph(other)
		}
		if Graph(g) != first {
			t.Error(g)
		}
	}
}

// R7

func TestTheGraphIsNotChanged(t *testing.T) {
	for _, g := range some() {
		nodes := append(make([]node, 0, len(g.Nodes)+3), g.Nodes...)
		edges := append(make([]edge, 0, len(g.Edges)+3), g.Edges...)
		allNodes, allEdges := nodes[:cap(nodes)], edges[:cap(edges)]
		for i := len(nodes); i < cap(nodes); i++ {
			allNodes[i] = node{Kind: 77, Depth: i}
		}
		for i := len(edges); i < cap(edges); i++ {
			allEdges[i] = edge{From: 77, To: i}
		}
		keptNodes, keptEdges := slices.Clone(allNodes), slices.Clone(allEdges)
		if Graph(net{Nodes: nodes, Edges: edges}) != Graph(g) {
			t.Error("it hangs on the spare room", g)
		}
		if !slices.Equal(allNodes, keptNodes) || !slices.Equal(allEdges, keptEdges) {
			t.Error("changed", g)
		}
	}
}
