package graph

import (
	"math"
	"slices"
	"testing"

	"meander/api"
	"meander/summary"
)

// The kinds and the output's port, written out, so that another number of one is found.
const (
	input    = 1
	mapped   = 2
	filter   = 3
	concat   = 4
	exchange = 5
	reduce   = 6
	windowed = 7
	enter    = 8
	leave    = 9
	feedback = 10
	capture  = 11
	out      = -1
)

type (
	node  = api.Node
	edge  = api.Edge
	loc   = api.Loc
	sums  = api.Summary
	place = [2]int // a node and a port
)

func locs(l ...place) []loc {
	made := []loc{}
	for _, x := range l {
		made = append(made, loc{Node: x[0], Port: x[1]})
	}
	return made
}

// row is an Input, a Map, a Filter, an Exchange, a Reduce and a Capture, one behind the other.
func row() api.Graph {
	return api.Graph{
		Nodes: []node{{Kind: input}, {Kind: mapped, A: 1, B: 3}, {Kind: filter, A: 1, B: 9}, {Kind: exchange}, {Kind: reduce, A: 2}, {Kind: capture}},
		Edges: []edge{{From: 0, To: 1}, {From: 1, To: 2}, {From: 2, To: 3}, {From: 3, To: 4}, {From: 4, To: 5}},
	}
}

// branch is an Input whose records go three ways, of which two come together again.
func branch() api.Graph {
	return api.Graph{
		Nodes: []node{{Kind: input}, {Kind: mapped, A: 4}, {Kind: filter, A: 4}, {Kind: concat}, {Kind: capture}, {Kind: exchange}, {Kind: windowed, A: 4, B: 2}, {Kind: capture}},
		Edges: []edge{{From: 0, To: 2}, {From: 0, To: 1}, {From: 1, To: 3, Port: 1}, {From: 0, To: 5}, {From: 2, To: 3}, {From: 3, To: 4}, {From: 5, To: 6}, {From: 6, To: 7}},
	}
}

// loop is a graph with a loop from the Feedback 5 back to the Concat 2.
func loop() api.Graph {
	return api.Graph{
		Nodes: []node{{Kind: input}, {Kind: enter, Depth: 1}, {Kind: concat, Depth: 1}, {Kind: mapped, A: 1, B: 1, Depth: 1}, {Kind: exchange, Depth: 1}, {Kind: feedback, A: 2, Depth: 1}, {Kind: leave}, {Kind: capture}},
		Edges: []edge{{From: 0, To: 1}, {From: 1, To: 2}, {From: 2, To: 3}, {From: 3, To: 4}, {From: 4, To: 5}, {From: 5, To: 2, Port: 1}, {From: 4, To: 6}, {From: 6, To: 7}},
	}
}

// loops is a loop in a loop: the inner one from 6 back to 4, the outer one from 8 back to 2.
func loops() api.Graph {
	return api.Graph{
		Nodes: []node{{Kind: input}, {Kind: enter, Depth: 1}, {Kind: concat, Depth: 1}, {Kind: enter, Depth: 2}, {Kind: concat, Depth: 2}, {Kind: mapped, A: 2, B: 2, Depth: 2}, {Kind: feedback, A: 3, Depth: 2}, {Kind: leave, Depth: 1}, {Kind: feedback, A: 2, Depth: 1}, {Kind: leave}, {Kind: capture}},
		Edges: []edge{{From: 0, To: 1}, {From: 1, To: 2}, {From: 2, To: 3}, {From: 3, To: 4}, {From: 4, To: 5}, {From: 5, To: 6}, {From: 6, To: 4, Port: 1}, {From: 5, To: 7}, {From: 7, To: 8}, {From: 8, To: 2, Port: 1}, {From: 7, To: 9}, {From: 9, To: 10}},
	}
}

// odd has nodes of kinds that are none among others, depths that are none, edges to and from what is none, and edges that are the same.
func odd() api.Graph {
	return api.Graph{
		Nodes: []node{{}, {Kind: concat, Depth: 4}, {Kind: 12, Depth: 2}, {Kind: enter}, {Kind: -1}, {Kind: leave, Depth: 3}, {Kind: math.MaxInt}, {Kind: capture, Depth: -1}, {Kind: math.MinInt, Depth: 1}, {Kind: input, Depth: 7}},
		Edges: []edge{
			{From: 1, To: 3}, {From: 9, To: 1, Port: 1}, {From: 1, To: 3}, {From: 1, To: 3, Port: 1}, {From: 1, To: 1, Port: 2}, {From: 1, To: 10}, {From: 1, To: -1},
			{From: -1, To: 3}, {From: 10, To: 3}, {From: 7, To: 3}, {From: 2, To: 0}, {From: 1, To: 3}, {From: 1, To: 5, Port: out}, {From: 5, To: 5, Port: out},
			{From: math.MinInt, To: math.MaxInt, Port: math.MinInt}, {From: math.MaxInt, To: math.MinInt, Port: math.MaxInt}, {From: 10, To: 3}, {From: 1, To: 1},
		},
	}
}

// many is a graph far greater than MaxNodes and MaxEdges let one be: rows of all kinds, and others, of all depths, with edges to and from nodes beyond it.
func many(nodes, edges int) api.Graph {
	g := api.Graph{}
	for i := range nodes {
		g.Nodes = append(g.Nodes, node{Kind: i%15 - 1, Depth: i%6 - 1, A: i, B: -i})
	}
	for i := range edges {
		g.Edges = append(g.Edges, edge{From: i*7%(nodes+4) - 2, To: i*11%(nodes+4) - 2, Port: i%5 - 2})
	}
	return g
}

func nodesAlone() api.Graph { return api.Graph{Nodes: loop().Nodes} }

func edgesAlone() api.Graph { return api.Graph{Edges: loop().Edges} }

func graphs() []api.Graph {
	return []api.Graph{{}, {Nodes: []node{}, Edges: []edge{}}, row(), branch(), loop(), loops(), odd(), nodesAlone(), edgesAlone(), many(14, 30), many(300, 900)}
}

// greatest and least numbers, and such as are far from any graph.
func far() []int {
	return []int{math.MinInt, math.MinInt + 1, -1 << 40, 1 << 40, math.MaxInt - 1, math.MaxInt}
}

// isPlace is P8.2 word by word: of each node its inputs, and its output, if it has one.
func isPlace(g api.Graph, l loc) bool {
	for i, n := range g.Nodes {
		if i != l.Node {
			continue
		}
		switch n.Kind {
		case input:
			return l.Port == -1
		case mapped, filter, exchange, reduce, windowed, enter, leave, feedback:
			return l.Port == -1 || l.Port == 0
		case concat:
			return l.Port == -1 || l.Port == 0 || l.Port == 1
		case capture:
			return l.Port == 0
		}
	}
	return false
}

// around hands each node and port of a graph, and some beyond, in order.
func around(g api.Graph) []loc {
	var l []loc
	for i := -2; i < len(g.Nodes)+3; i++ {
		for port := -3; port <= 4; port++ {
			l = append(l, loc{Node: i, Port: port})
		}
	}
	return l
}

// P8.1

func TestInsAndHasOut(t *testing.T) {
	for _, x := range []struct {
		kind, ins int
		out       bool
	}{
		{input, 0, true}, {mapped, 1, true}, {filter, 1, true}, {concat, 2, true}, {exchange, 1, true}, {reduce, 1, true}, {windowed, 1, true},
		{enter, 1, true}, {leave, 1, true}, {feedback, 1, true}, {capture, 1, false},
		{0, 0, false}, {12, 0, false}, {13, 0, false}, {-1, 0, false}, {-2, 0, false}, {-4, 0, false}, {-10, 0, false}, {-11, 0, false}, {255, 0, false}, {257, 0, false}, {260, 0, false}, {1 << 32, 0, false}, {1<<32 + 4, 0, false},
		{math.MaxInt, 0, false}, {math.MaxInt - 1, 0, false}, {math.MinInt, 0, false}, {math.MinInt + 1, 0, false}, {math.MinInt + 4, 0, false},
	} {
		if got := Ins(x.kind); got != x.ins {
			t.Error(x, got)
		}
		if got := HasOut(x.kind); got != x.out {
			t.Error(x, got)
		}
	}
}

func TestOtherKindsHaveNeither(t *testing.T) {
	for kind := -1000; kind <= 1000; kind++ {
		if kind >= 1 && kind <= 11 {
			continue
		}
		if Ins(kind) != 0 || HasOut(kind) {
			t.Error(kind, Ins(kind), HasOut(kind))
		}
	}
}

func TestInDepth(t *testing.T) {
	// the chapter's example
	if got := InDepth(node{Kind: enter, Depth: 2}); got != 1 {
		t.Error(got)
	}
	kinds := append(far(), -9, -8, 0, input, mapped, filter, concat, exchange, reduce, windowed, enter, leave, feedback, capture, 12, 13)
	depths := append(far(), -1000, -2, -1, 0, 1, 2, 3, 4, 5, 1000)
	for _, kind := range kinds {
		for _, depth := range depths {
			want := depth
			if kind == 8 {
				want = depth - 1
			}
			if kind == 9 {
				want = depth + 1
			}
			if got := InDepth(node{Kind: kind, Depth: depth}); got != want {
				t.Error(kind, depth, got)
			}
		}
	}
}

func TestInner(t *testing.T) {
	none := sums{}
	same := func(d int) sums { return sums{From: d, To: d, Keep: d} }
	for i, x := range []struct {
		kind  int
		depth int
		want  sums
	}{
		// into a loop: of each depth that an Enter may have, and one beyond at either end
		{enter, -1, none}, {enter, 0, none}, {enter, 1, sums{From: 0, To: 1, Keep: 0}}, {enter, 2, sums{From: 1, To: 2, Keep: 1}}, {enter, 3, sums{From: 2, To: 3, Keep: 2}}, {enter, 4, none}, {enter, 5, none},
		// out of a loop
		{leave, -2, none}, {leave, -1, none}, {leave, 0, sums{From: 1, To: 0, Keep: 0}}, {leave, 1, sums{From: 2, To: 1, Keep: 1}}, {leave, 2, sums{From: 3, To: 2, Keep: 2}}, {leave, 3, none}, {leave, 4, none},
		// a round more
		{feedback, -1, none}, {feedback, 0, none}, {feedback, 1, sums{From: 1, To: 1, Keep: 1, Add: [3]int{1, 0, 0}}}, {feedback, 2, sums{From: 2, To: 2, Keep: 2, Add: [3]int{0, 1, 0}}}, {feedback, 3, sums{From: 3, To: 3, Keep: 3, Add: [3]int{0, 0, 1}}}, {feedback, 4, none},
		// the others leave times as they are
		{mapped, 0, same(0)}, {mapped, 1, same(1)}, {mapped, 2, same(2)}, {mapped, 3, same(3)}, {mapped, 4, none}, {mapped, -1, none},
		{filter, 1, same(1)}, {filter, 3, same(3)}, {filter, 4, none},
		{concat, 0, same(0)}, {concat, 2, same(2)}, {concat, 3, same(3)}, {concat, 4, none},
		{exchange, 1, same(1)}, {exchange, 3, same(3)}, {exchange, -1, none},
		{reduce, 2, same(2)}, {reduce, 3, same(3)}, {reduce, 4, none},
		{windowed, 0, same(0)}, {windowed, 1, same(1)}, {windowed, 3, same(3)}, {windowed, 4, none},
		// no input, or no output, or no kind
		{input, 0, none}, {input, 1, none}, {input, 3, none}, {capture, 0, none}, {capture, 1, none}, {capture, 3, none},
		{0, 1, none}, {0, 3, none}, {12, 1, none}, {12, 3, none}, {13, 2, none}, {-1, 1, none}, {-8, 1, none}, {math.MaxInt, 1, none}, {math.MinInt, 1, none},
	} {
		for _, ab := range [][2]int{{0, 0}, {3, 2}, {math.MinInt, math.MaxInt}} {
			if got := Inner(node{Kind: x.kind, A: ab[0], B: ab[1], Depth: x.depth}); got != x.want {
				t.Error(i, x, ab, got)
			}
		}
	}
}

// Of each kind and depth, Inner is the step that the chapter names, of the depth of the inputs.
func TestInnerIsTheStepOfInDepth(t *testing.T) {
	depths := append(far(), -3, -2, -1, 0, 1, 2, 3, 4, 5)
	for _, kind := range append(far(), -2, -1, 0, 1, 2, 3, 4, 5, 6, 7, 8, 9, 10, 11, 12, 13) {
		for _, depth := range depths {
			n := node{Kind: kind, Depth: depth, A: 1, B: 1}
			in, want := InDepth(n), sums{}
			switch {
			case kind == 8:
				want = summary.Enter(in)
			case kind == 9:
				want = summary.Leave(in)
			case kind == 10:
				want = summary.Feed(in)
			case kind >= 2 && kind <= 7:
				want = summary.Same(in)
			}
			got := Inner(n)
			if got != want || !summary.May(got) {
				t.Error(n, got)
			}
			if got != (sums{}) && (got.From != in || got.To != depth) {
				t.Error(n, got)
			}
		}
	}
}

// P8.2

func TestOrder(t *testing.T) {
	for i, x := range []struct {
		a, b loc
		want int
	}{
		{loc{}, loc{}, 0},
		{loc{Node: 3, Port: 1}, loc{Node: 3, Port: 1}, 0},
		{loc{Node: 3, Port: out}, loc{Node: 3, Port: out}, 0},
		{loc{Node: 1}, loc{Node: 2}, -1},
		// the node ahead of the port
		{loc{Node: 1, Port: 1}, loc{Node: 2, Port: out}, -1},
		{loc{Node: 1, Port: 9}, loc{Node: 2, Port: -9}, -1},
		{loc{Node: -1, Port: 1}, loc{Node: 0, Port: out}, -1},
		// the output ahead of the inputs
		{loc{Node: 4, Port: out}, loc{Node: 4}, -1},
		{loc{Node: 4, Port: out}, loc{Node: 4, Port: 1}, -1},
		{loc{Node: 4}, loc{Node: 4, Port: 1}, -1},
		// places that are none stand by their numbers as well
		{loc{Node: 4, Port: -2}, loc{Node: 4, Port: out}, -1},
		{loc{Node: 4, Port: 1}, loc{Node: 4, Port: 2}, -1},
		{loc{Node: -2}, loc{Node: -1}, -1},
		{loc{Node: -5, Port: 3}, loc{Node: 5, Port: -3}, -1},
		{loc{Node: math.MinInt}, loc{Node: math.MaxInt}, -1},
		{loc{Node: math.MinInt, Port: math.MaxInt}, loc{Node: math.MinInt + 1, Port: math.MinInt}, -1},
		{loc{Port: math.MinInt}, loc{Port: math.MaxInt}, -1},
		{loc{Node: math.MaxInt, Port: math.MinInt}, loc{Node: math.MaxInt, Port: math.MaxInt}, -1},
	} {
		if got := Order(x.a, x.b); got != x.want {
			t.Error(i, x, got)
		}
		if got := Order(x.b, x.a); got != -x.want {
			t.Error(i, x, got)
		}
	}
}

// Of each two places just one of three holds, and it is what the words say.
func TestOrderOfAllPairs(t *testing.T) {
	numbers := append(far(), -3, -2, -1, 0, 1, 2, 3)
	slices.Sort(numbers)
	var rising []loc
	for _, n := range numbers {
		for _, p := range numbers {
			rising = append(rising, loc{Node: n, Port: p})
		}
	}
	for i, a := range rising {
		for j, b := range rising {
			want := 0
			if i < j {
				want = -1
			}
			if i > j {
				want = 1
			}
			if got := Order(a, b); got != want {
				t.Error(a, b, got)
			}
		}
	}
}

func TestLocs(t *testing.T) {
	for i, x := range []struct {
		g    api.Graph
		want []loc
	}{
		{api.Graph{}, nil},
		{api.Graph{Nodes: []node{}}, nil},
		{edgesAlone(), nil},
		{api.Graph{Nodes: []node{{}, {Kind: 12}, {Kind: -1}, {Kind: math.MinInt}, {Kind: math.MaxInt}}}, nil},
		{api.Graph{Nodes: []node{{Kind: input}}}, locs(place{0, out})},
		{api.Graph{Nodes: []node{{Kind: capture}}}, locs(place{0, 0})},
		{api.Graph{Nodes: []node{{Kind: concat}}}, locs(place{0, out}, place{0, 0}, place{0, 1})},
		{row(), locs(place{0, out}, place{1, out}, place{1, 0}, place{2, out}, place{2, 0}, place{3, out}, place{3, 0}, place{4, out}, place{4, 0}, place{5, 0})},
		{branch(), locs(place{0, out}, place{1, out}, place{1, 0}, place{2, out}, place{2, 0}, place{3, out}, place{3, 0}, place{3, 1}, place{4, 0}, place{5, out}, place{5, 0}, place{6, out}, place{6, 0}, place{7, 0})},
		{loop(), locs(place{0, out}, place{1, out}, place{1, 0}, place{2, out}, place{2, 0}, place{2, 1}, place{3, out}, place{3, 0}, place{4, out}, place{4, 0}, place{5, out}, place{5, 0}, place{6, out}, place{6, 0}, place{7, 0})},
		{nodesAlone(), Locs(loop())},
		{odd(), locs(place{1, out}, place{1, 0}, place{1, 1}, place{3, out}, place{3, 0}, place{5, out}, place{5, 0}, place{7, 0}, place{9, out})},
	} {
		if got := Locs(x.g); !slices.Equal(got, x.want) {
			t.Error(i, got)
		}
	}
}

// Each place stands in Locs once, in order, and just those that Is tells do.
func TestLocsAreThosePlacesThatAre(t *testing.T) {
	for i, g := range graphs() {
		var want []loc
		for _, l := range around(g) {
			is := isPlace(g, l)
			if is {
				want = append(want, l)
			}
			if got := Is(g, l); got != is {
				t.Error(i, l, got)
			}
		}
		got := Locs(g)
		if !slices.Equal(got, want) {
			t.Error(i, got)
		}
		for j, l := range got {
			if j > 0 && Order(got[j-1], l) != -1 {
				t.Error(i, got[j-1], l)
			}
			if !Is(g, l) {
				t.Error(i, l)
			}
		}
	}
}

func TestIsAndDepth(t *testing.T) {
	for i, x := range []struct {
		g     api.Graph
		l     loc
		is    bool
		depth int
	}{
		{loop(), loc{Node: 0, Port: out}, true, 0},
		{loop(), loc{Node: 1, Port: 0}, true, 0},
		{loop(), loc{Node: 1, Port: out}, true, 1},
		{loop(), loc{Node: 2, Port: 0}, true, 1},
		{loop(), loc{Node: 2, Port: 1}, true, 1},
		{loop(), loc{Node: 2, Port: out}, true, 1},
		{loop(), loc{Node: 5, Port: 0}, true, 1},
		{loop(), loc{Node: 5, Port: out}, true, 1},
		{loop(), loc{Node: 6, Port: 0}, true, 1},
		{loop(), loc{Node: 6, Port: out}, true, 0},
		{loop(), loc{Node: 7, Port: 0}, true, 0},
		{loops(), loc{Node: 3, Port: 0}, true, 1},
		{loops(), loc{Node: 3, Port: out}, true, 2},
		{loops(), loc{Node: 4, Port: 1}, true, 2},
		{loops(), loc{Node: 6, Port: out}, true, 2},
		{loops(), loc{Node: 7, Port: 0}, true, 2},
		{loops(), loc{Node: 7, Port: out}, true, 1},
		{loops(), loc{Node: 9, Port: 0}, true, 1},
		{loops(), loc{Node: 9, Port: out}, true, 0},
		// an Input's lacking input, a Capture's lacking output
		{loop(), loc{Node: 0, Port: 0}, false, -1},
		{loop(), loc{Node: 0, Port: 1}, false, -1},
		{loop(), loc{Node: 7, Port: out}, false, -1},
		{loop(), loc{Node: 7, Port: 1}, false, -1},
		// a second input of what is no Concat, a third one of what is
		{loop(), loc{Node: 1, Port: 1}, false, -1},
		{loop(), loc{Node: 3, Port: 1}, false, -1},
		{loop(), loc{Node: 5, Port: 1}, false, -1},
		{loop(), loc{Node: 2, Port: 2}, false, -1},
		{loop(), loc{Node: 2, Port: -2}, false, -1},
		{loop(), loc{Node: 3, Port: -2}, false, -1},
		// nodes that are none
		{loop(), loc{Node: -1, Port: 0}, false, -1},
		{loop(), loc{Node: -1, Port: out}, false, -1},
		{loop(), loc{Node: 8, Port: 0}, false, -1},
		{loop(), loc{Node: 8, Port: out}, false, -1},
		{loop(), loc{Node: 9, Port: 0}, false, -1},
		{api.Graph{}, loc{}, false, -1},
		{api.Graph{}, loc{Port: out}, false, -1},
		{api.Graph{}, loc{Node: -1, Port: out}, false, -1},
		{edgesAlone(), loc{Node: 1}, false, -1},
		{edgesAlone(), loc{Node: 1, Port: out}, false, -1},
		{nodesAlone(), loc{Node: 1, Port: out}, true, 1},
		// kinds that are none
		{odd(), loc{Node: 0}, false, -1},
		{odd(), loc{Node: 0, Port: out}, false, -1},
		{odd(), loc{Node: 2}, false, -1},
		{odd(), loc{Node: 2, Port: out}, false, -1},
		{odd(), loc{Node: 4}, false, -1},
		{odd(), loc{Node: 4, Port: out}, false, -1},
		{odd(), loc{Node: 6}, false, -1},
		{odd(), loc{Node: 6, Port: out}, false, -1},
		{odd(), loc{Node: 8}, false, -1},
		{odd(), loc{Node: 8, Port: out}, false, -1},
		// a place of a depth that is none is still a place
		{odd(), loc{Node: 1, Port: 1}, true, 4},
		{odd(), loc{Node: 1, Port: out}, true, 4},
		{odd(), loc{Node: 3, Port: 0}, true, -1},
		{odd(), loc{Node: 3, Port: out}, true, 0},
		{odd(), loc{Node: 5, Port: 0}, true, 4},
		{odd(), loc{Node: 5, Port: out}, true, 3},
		{odd(), loc{Node: 7, Port: 0}, true, -1},
		{odd(), loc{Node: 9, Port: out}, true, 7},
	} {
		if got := Is(x.g, x.l); got != x.is {
			t.Error(i, x.l, got)
		}
		if got := Depth(x.g, x.l); got != x.depth {
			t.Error(i, x.l, got)
		}
	}
}

func TestDepthOfAllPlaces(t *testing.T) {
	for i, g := range graphs() {
		for _, l := range around(g) {
			want := -1
			if isPlace(g, l) {
				want = g.Nodes[l.Node].Depth
				if l.Port >= 0 && g.Nodes[l.Node].Kind == enter {
					want--
				}
				if l.Port >= 0 && g.Nodes[l.Node].Kind == leave {
					want++
				}
			}
			if got := Depth(g, l); got != want {
				t.Error(i, l, got)
			}
		}
	}
}

// Each kind's node, with each port: what is a place of it, and how deep.
func TestPlacesOfEachKind(t *testing.T) {
	kinds := append(far(), 16+1, 16+4, 64+8, 256+4, 256+9, 1<<32+4) // these have the low bits of kinds that are
	for kind := -3; kind <= 14; kind++ {
		kinds = append(kinds, kind)
	}
	for _, kind := range kinds {
		for depth := -1; depth <= 4; depth++ {
			g := api.Graph{Nodes: []node{{Kind: input}, {Kind: kind, Depth: depth}, {Kind: capture}}}
			many := 0
			for _, port := range append(far(), -3, -2, -1, 0, 1, 2, 3) {
				l := loc{Node: 1, Port: port}
				is := port >= 0 && port < Ins(kind) || port == -1 && HasOut(kind)
				if is {
					many++
				}
				want := -1
				if is && port >= 0 {
					want = InDepth(g.Nodes[1])
				} else if is {
					want = depth
				}
				if Is(g, l) != is || isPlace(g, l) != is || Depth(g, l) != want {
					t.Error(kind, depth, port, Is(g, l), Depth(g, l))
				}
			}
			if got := Locs(g); len(got) != many+2 {
				t.Error(kind, got)
			}
		}
	}
}

func TestNoPlaceFarAway(t *testing.T) {
	for i, g := range graphs() {
		for _, n := range far() {
			for _, l := range []loc{{Node: n}, {Node: n, Port: out}, {Node: n, Port: 1}, {Node: n, Port: n}, {Port: n}, {Node: 1, Port: n}, {Node: 2, Port: n}} {
				if Is(g, l) || Depth(g, l) != -1 {
					t.Error(i, l, Is(g, l), Depth(g, l))
				}
			}
		}
	}
}

// P8.3

func TestNext(t *testing.T) {
	for i, x := range []struct {
		g    api.Graph
		node int
		want []loc
	}{
		{row(), 0, locs(place{1, 0})},
		{row(), 4, locs(place{5, 0})},
		{row(), 5, nil},
		// in the order of the edges, not of the places
		{branch(), 0, locs(place{2, 0}, place{1, 0}, place{5, 0})},
		{branch(), 1, locs(place{3, 1})},
		{branch(), 2, locs(place{3, 0})},
		{loop(), 4, locs(place{5, 0}, place{6, 0})},
		{loop(), 5, locs(place{2, 1})},
		{loop(), 7, nil},
		{loop(), 8, nil},
		{loop(), -1, nil},
		{loops(), 5, locs(place{6, 0}, place{7, 0})},
		{loops(), 8, locs(place{2, 1})},
		// places that are none, nodes that are none, and the same ones again
		{odd(), 1, locs(place{3, 0}, place{3, 0}, place{3, 1}, place{1, 2}, place{10, 0}, place{-1, 0}, place{3, 0}, place{5, -1}, place{1, 0})},
		{odd(), 9, locs(place{1, 1})},
		{odd(), -1, locs(place{3, 0})},
		{odd(), 10, locs(place{3, 0}, place{3, 0})},
		{odd(), 7, locs(place{3, 0})},
		{odd(), 2, locs(place{0, 0})},
		{odd(), 5, locs(place{5, -1})},
		{odd(), 3, nil},
		{odd(), 0, nil},
		{odd(), math.MinInt, locs(place{math.MaxInt, math.MinInt})},
		{odd(), math.MaxInt, locs(place{math.MinInt, math.MaxInt})},
		{odd(), math.MinInt + 1, nil},
		{api.Graph{}, 0, nil},
		{nodesAlone(), 4, nil},
		{edgesAlone(), 4, locs(place{5, 0}, place{6, 0})},
	} {
		if got := Next(x.g, x.node); !slices.Equal(got, x.want) {
			t.Error(i, got)
		}
	}
}

func TestPrev(t *testing.T) {
	for i, x := range []struct {
		g    api.Graph
		l    loc
		want []int
	}{
		{row(), loc{Node: 1}, []int{0}},
		{row(), loc{Node: 5}, []int{4}},
		{row(), loc{Node: 0}, nil},
		{row(), loc{Node: 0, Port: out}, nil},
		{row(), loc{Node: 1, Port: out}, nil},
		{row(), loc{Node: 1, Port: 1}, nil},
		// each of the two inputs has its own
		{branch(), loc{Node: 3}, []int{2}},
		{branch(), loc{Node: 3, Port: 1}, []int{1}},
		{branch(), loc{Node: 3, Port: 2}, nil},
		{loop(), loc{Node: 2}, []int{1}},
		{loop(), loc{Node: 2, Port: 1}, []int{5}},
		{loop(), loc{Node: 6}, []int{4}},
		{loop(), loc{Node: 8}, nil},
		{loop(), loc{Node: -1}, nil},
		{loops(), loc{Node: 4, Port: 1}, []int{6}},
		{loops(), loc{Node: 2, Port: 1}, []int{8}},
		// nodes that are none, the same ones again, in the order of the edges; and places that are none
		{odd(), loc{Node: 3}, []int{1, 1, -1, 10, 7, 1, 10}},
		{odd(), loc{Node: 3, Port: 1}, []int{1}},
		{odd(), loc{Node: 1}, []int{1}},
		{odd(), loc{Node: 1, Port: 1}, []int{9}},
		{odd(), loc{Node: 1, Port: 2}, []int{1}},
		{odd(), loc{Node: 10}, []int{1}},
		{odd(), loc{Node: -1}, []int{1}},
		{odd(), loc{Node: 0}, []int{2}},
		{odd(), loc{Node: 5, Port: out}, []int{1, 5}},
		{odd(), loc{Node: 5}, nil},
		{odd(), loc{Node: math.MaxInt, Port: math.MinInt}, []int{math.MinInt}},
		{odd(), loc{Node: math.MinInt, Port: math.MaxInt}, []int{math.MaxInt}},
		{odd(), loc{Node: math.MaxInt, Port: math.MaxInt}, nil},
		{api.Graph{}, loc{}, nil},
		{nodesAlone(), loc{Node: 2}, nil},
		{edgesAlone(), loc{Node: 2, Port: 1}, []int{5}},
	} {
		if got := Prev(x.g, x.l); !slices.Equal(got, x.want) {
			t.Error(i, got)
		}
	}
}

// Of each node and each place, Next and Prev are what going through the edges tells.
func TestNextAndPrevOfAll(t *testing.T) {
	for i, g := range graphs() {
		for n := -4; n < len(g.Nodes)+9; n++ {
			var want []loc
			for j := range g.Edges {
				if g.Edges[j].From == n {
					want = append(want, loc{Node: g.Edges[j].To, Port: g.Edges[j].Port})
				}
			}
			if got := Next(g, n); !slices.Equal(got, want) {
				t.Error(i, n, got)
			}
		}
		for _, l := range around(g) {
			var want []int
			for j := range g.Edges {
				if g.Edges[j].To == l.Node && g.Edges[j].Port == l.Port {
					want = append(want, g.Edges[j].From)
				}
			}
			if got := Prev(g, l); !slices.Equal(got, want) {
				t.Error(i, l, got)
			}
		}
	}
}

// P8.4

// howOften is how often x is in l.
func howOften[T comparable](l []T, x T) int {
	n := 0
	for _, y := range l {
		if x == y {
			n++
		}
	}
	return n
}

// Each edge leads to what Next tells, and back by Prev, as often as there are edges like it.
func TestEdgesLeadThereAndBack(t *testing.T) {
	for i, g := range graphs() {
		there, back := 0, 0
		nodes, places := []int{}, []loc{}
		for _, e := range g.Edges {
			to := loc{Node: e.To, Port: e.Port}
			often := howOften(g.Edges, e)
			if n := howOften(Next(g, e.From), to); n != often {
				t.Error(i, e, n)
			}
			if n := howOften(Prev(g, to), e.From); n != often {
				t.Error(i, e, n)
			}
			if !slices.Contains(nodes, e.From) {
				nodes = append(nodes, e.From)
				there += len(Next(g, e.From))
			}
			if !slices.Contains(places, to) {
				places = append(places, to)
				back += len(Prev(g, to))
			}
		}
		// nothing is told that is no edge
		if there != len(g.Edges) || back != len(g.Edges) {
			t.Error(i, there, back, len(g.Edges))
		}
	}
}

// R1

func TestEveryCallEnds(t *testing.T) {
	numbers := append(far(), -12, -2, -1, 0, 1, 2, 4, 8, 9, 10, 11, 12)
	extreme := api.Graph{}
	for _, x := range numbers {
		for _, y := range numbers {
			n := node{Kind: x, A: y, B: x, Depth: y}
			Ins(x)
			HasOut(x)
			InDepth(n)
			Inner(n)
			Order(loc{Node: x, Port: y}, loc{Node: y, Port: x})
			extreme.Nodes = append(extreme.Nodes, n)
			extreme.Edges = append(extreme.Edges, edge{From: x, To: y, Port: x}, edge{From: y, To: y, Port: y})
		}
	}
	for _, g := range append(graphs(), extreme) {
		Locs(g)
		for _, x := range numbers {
			Next(g, x)
			for _, y := range numbers {
				l := loc{Node: x, Port: y}
				Is(g, l)
				Depth(g, l)
				Prev(g, l)
			}
		}
	}
}

func TestGraphsFarGreaterThanMayRun(t *testing.T) {
	const size = 90000
	g := many(size, 3*size)
	l := Locs(g)
	ins, outs := 0, 0
	for _, x := range l {
		if x.Port == out {
			outs++
		} else {
			ins++
		}
		if !Is(g, x) {
			t.Fatal(x)
		}
	}
	// of 15 kinds in turn 10 have an output, and there are 11 inputs
	if outs != size/15*10 || ins != size/15*11 {
		t.Error(ins, outs)
	}
	if !slices.IsSortedFunc(l, Order) {
		t.Error("not in order")
	}
	total := 0
	for n := -2; n < 100; n++ {
		for _, to := range Next(g, n) {
			total++
			if !slices.Contains(Prev(g, to), n) {
				t.Fatal(n, to)
			}
		}
	}
	if total == 0 {
		t.Error("no edges")
	}
	if Is(g, loc{Node: size}) || Is(g, loc{Node: size, Port: out}) || Depth(g, loc{Node: size - 1, Port: 9}) != -1 {
		t.Error("a place beyond the last node")
	}
	same := api.Graph{Edges: slices.Repeat([]edge{{From: 3, To: 4, Port: 1}}, size)}
	if len(Next(same, 3)) != size || len(Prev(same, loc{Node: 4, Port: 1})) != size || len(Next(same, 4)) != 0 {
		t.Error("edges that are the same are each kept")
	}
}

// R6: the same arguments, the same answer, whatever was asked between.
func TestSameCallsSameAnswers(t *testing.T) {
	all := graphs()
	for i, g := range all {
		places, next, prev := Locs(g), Next(g, 1), Prev(g, loc{Node: 3})
		for _, other := range all {
			Locs(other)
			Next(other, 1)
			Prev(other, loc{Node: 3})
			if !slices.Equal(Locs(g), places) || !slices.Equal(Next(g, 1), next) || !slices.Equal(Prev(g, loc{Node: 3}), prev) {
				t.Error(i)
			}
		}
	}
}

// R7

// spare is l with room behind its end, filled with what is not to change and would be seen if it were read.
func spare[T any](l []T, behind ...T) []T {
	all := append(slices.Clone(l), behind...)
	return all[:len(l)]
}

// whole is a list with the room behind its end.
func whole[T any](l []T) []T { return l[:cap(l)] }

// roomy is a graph with nodes and edges in the room behind the ends of its lists.
func roomy(g api.Graph) api.Graph {
	return api.Graph{
		Nodes: spare(g.Nodes, node{Kind: concat, Depth: 1}, node{Kind: input}),
		Edges: spare(g.Edges, edge{From: 1, To: 2}, edge{From: 4, To: 3}, edge{From: 0, To: 2, Port: 1}),
	}
}

func TestHandedInIsNotChanged(t *testing.T) {
	for i, x := range graphs() {
		g := roomy(x)
		nodes, edges := slices.Clone(whole(g.Nodes)), slices.Clone(whole(g.Edges))
		Locs(g)
		for _, l := range around(g) {
			Is(g, l)
			Depth(g, l)
			Next(g, l.Node)
			Prev(g, l)
		}
		if !slices.Equal(whole(g.Nodes), nodes) || !slices.Equal(whole(g.Edges), edges) || len(g.Nodes) != len(x.Nodes) || len(g.Edges) != len(x.Edges) {
			t.Error(i, g)
		}
	}
}

// What stands in the room behind a list's end is no part of the graph.
func TestRoomBehindTheEndIsNotRead(t *testing.T) {
	for i, x := range graphs() {
		g := roomy(x)
		if !slices.Equal(Locs(g), Locs(x)) {
			t.Error(i, Locs(g))
		}
		for _, l := range around(x) {
			if Is(g, l) != Is(x, l) || Depth(g, l) != Depth(x, l) || !slices.Equal(Next(g, l.Node), Next(x, l.Node)) || !slices.Equal(Prev(g, l), Prev(x, l)) {
				t.Error(i, l)
			}
		}
	}
}

// What is written into an answer, the room behind its end too, is seen in no other one and not in the graph.
func TestAnswersAreNew(t *testing.T) {
	for i, x := range graphs() {
		g := roomy(x)
		nodes, edges := slices.Clone(whole(g.Nodes)), slices.Clone(whole(g.Edges))
		for _, n := range []int{0, 1, 4, -1, 10} {
			l := loc{Node: 3}
			places := [][]loc{Locs(g), Locs(g), Next(g, n), Next(g, n), Locs(g)}
			from := [][]int{Prev(g, l), Prev(g, l), Prev(g, loc{Node: n})}
			unlike(t, places, loc{Node: 77, Port: 77})
			unlike(t, from, 77)
			if !slices.Equal(whole(g.Nodes), nodes) || !slices.Equal(whole(g.Edges), edges) {
				t.Error(i, n, g)
			}
			if !slices.Equal(Locs(g), Locs(x)) || !slices.Equal(Next(g, n), Next(x, n)) || !slices.Equal(Prev(g, l), Prev(x, l)) {
				t.Error(i, n)
			}
		}
	}
}

// unlike writes over one answer behind the other, and finds what others it is seen in.
func unlike[T comparable](t *testing.T, answers [][]T, mark T) {
	t.Helper()
	var kept [][]T
	for _, l := range answers {
		kept = append(kept, slices.Clone(l))
	}
	for i, l := range answers {
		for j := range whole(l) {
			whole(l)[j] = mark
		}
		for k := i + 1; k < len(answers); k++ {
			if !slices.Equal(answers[k], kept[k]) {
				t.Error(i, k, answers[k])
			}
		}
	}
}

// What was answered stays as it is when the graph is written over.
func TestAnswersStay(t *testing.T) {
	g := loop()
	places, next, prev := Locs(g), Next(g, 4), Prev(g, loc{Node: 2, Port: 1})
	for i := range g.Nodes {
		g.Nodes[i] = node{Kind: 12}
	}
	for i := range g.Edges {
		g.Edges[i] = edge{From: 55, To: 55, Port: 55}
	}
	if !slices.Equal(places, Locs(loop())) || !slices.Equal(next, locs(place{5, 0}, place{6, 0})) || !slices.Equal(prev, []int{5}) {
		t.Error(places, next, prev)
	}
	// and nothing is kept of the graph as it was
	if len(Locs(g)) != 0 || len(Next(g, 4)) != 0 || len(Prev(g, loc{Node: 2, Port: 1})) != 0 || Is(g, loc{Node: 1}) || Depth(g, loc{Node: 1}) != -1 {
		t.Error(Locs(g), Next(g, 4))
	}
}
