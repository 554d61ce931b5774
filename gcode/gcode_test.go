package gcode

import (
	"bytes"
	"math"
	"slices"
	"testing"

	"meander/api"
	"meander/valid"
)

// The kinds and the errors, written out, so that another number of one is found.
const (
	input    = 1
	mapped   = 2
	filter   = 3
	concat   = 4
	exchange = 5
	reduce   = 6
	windowed = 7
	enter    = 8
	leave    = 9
	feedback = 10
	capture  = 11

	ok         = 0
	errArg     = 1
	errCorrupt = 2
	errBig     = 3
	errNode    = 10
	errEdge    = 11
	errDepth   = 12
	errPort    = 13
	errCycle   = 14
	errRoute   = 15
)

type (
	node = api.Node
	edge = api.Edge
	net  = api.Graph
)

// pair is the chapter's example: an Input, a Capture, an edge.
func pair() net {
	return net{Nodes: []node{{Kind: input}, {Kind: capture}}, Edges: []edge{{From: 0, To: 1}}}
}

func pairBytes() []byte {
	return []byte{0x4d, 0x47, 0x02, 0x01, 0x00, 0x00, 0x00, 0x00, 0x00, 0x0b, 0x00, 0x00, 0x00, 0x00, 0x00, 0x01, 0x00, 0x01, 0x00}
}

// row is an Input, a Map, a Filter, an Exchange, a Reduce and a Capture, one behind the other.
func row() net {
	return net{
		Nodes: []node{{Kind: input}, {Kind: mapped, A: 1, B: -1000}, {Kind: filter, A: 1, B: 999}, {Kind: exchange}, {Kind: reduce, A: 2}, {Kind: capture}},
		Edges: []edge{{From: 0, To: 1}, {From: 1, To: 2}, {From: 2, To: 3}, {From: 3, To: 4}, {From: 4, To: 5}},
	}
}

// loop is a graph with a loop from the Feedback 5 back to the Concat 2.
func loop() net {
	return net{
		Nodes: []node{{Kind: input}, {Kind: enter, Depth: 1}, {Kind: concat, Depth: 1}, {Kind: mapped, A: 1, B: 1, Depth: 1}, {Kind: exchange, Depth: 1}, {Kind: feedback, A: 2, Depth: 1}, {Kind: leave}, {Kind: capture}},
		Edges: []edge{{From: 0, To: 1}, {From: 1, To: 2}, {From: 2, To: 3}, {From: 3, To: 4}, {From: 4, To: 5}, {From: 5, To: 2, Port: 1}, {From: 4, To: 6}, {From: 6, To: 7}},
	}
}

// each is a graph with a node of each kind: in its loop, a Map, a Filter and a Reduce.
func each() net {
	return net{
		Nodes: []node{{Kind: input}, {Kind: exchange}, {Kind: windowed, A: 20, B: 7}, {Kind: enter, Depth: 1}, {Kind: concat, Depth: 1}, {Kind: filter, A: 2, B: -300, Depth: 1}, {Kind: exchange, Depth: 1}, {Kind: reduce, A: 4, Depth: 1}, {Kind: mapped, A: 5, B: 700, Depth: 1}, {Kind: feedback, A: 6, Depth: 1}, {Kind: leave}, {Kind: capture}},
		Edges: []edge{{From: 0, To: 1}, {From: 1, To: 2}, {From: 2, To: 3}, {From: 3, To: 4}, {From: 4, To: 5}, {From: 5, To: 6}, {From: 6, To: 7}, {From: 7, To: 8}, {From: 8, To: 9}, {From: 9, To: 4, Port: 1}, {From: 7, To: 10}, {From: 10, To: 11}},
	}
}

// alone is a graph of one node, an Input.
func alone() net {
	return net{Nodes: []node{{Kind: input}}}
}

// many is so many nodes and edges with numbers from everywhere that there is room for.
func many(nodes, edges int) net {
	g := net{}
	for i := range nodes {
		g.Nodes = append(g.Nodes, node{Kind: i % 256, Depth: i * 7 % 256, A: i*257%65536 - 32768, B: i*4099%65536 - 32768})
	}
	for i := range edges {
		g.Edges = append(g.Edges, edge{From: i * 3 % 256, To: i * 5 % 256, Port: 255 - i%256})
	}
	return g
}

// runs is graphs that may run, by what they are.
func runs() map[string]net {
	full := net{Nodes: []node{{Kind: feedback, A: 6, Depth: 1}}, Edges: []edge{{From: 1, To: 0}}}
	for i := 1; i < 12; i++ {
		full.Nodes = append(full.Nodes, node{Kind: concat, Depth: 1})
		full.Edges = append(full.Edges, edge{From: 0, To: i}, edge{From: 0, To: i, Port: 1})
	}
	return map[string]net{
		"a pair":                   pair(),
		"a row":                    row(),
		"a loop":                   loop(),
		"each kind":                each(),
		"an Input":                 alone(),
		"an Input and no edges":    {Nodes: alone().Nodes, Edges: []edge{}},
		"as many nodes as may be":  full,
		"a Feedback to itself":     {Nodes: []node{{Kind: feedback, A: 1, Depth: 3}}, Edges: []edge{{}}},
		"numbers below 0, as B":    {Nodes: []node{{Kind: input}, {Kind: mapped, A: 2, B: -1}, {Kind: filter, A: 1, B: -257}}, Edges: []edge{{From: 0, To: 1}, {From: 1, To: 2}}},
		"edges not in their order": {Nodes: row().Nodes, Edges: []edge{{From: 4, To: 5}, {From: 0, To: 1}, {From: 2, To: 3}, {From: 1, To: 2}, {From: 3, To: 4}}},
	}
}

// faulty is a graph that may be laid down, but may not run, and why not.
type faulty struct {
	g net
	e api.Errno
}

// stalls is graphs to which each error of valid applies, some of them with others that are told later.
func stalls() map[string]faulty {
	without := loop()
	without.Edges = without.Edges[1:]
	unfed := loop()
	unfed.Nodes[5] = node{Kind: exchange, Depth: 1}
	deep := loop()
	deep.Edges[6].From = 0
	unrouted := row()
	unrouted.Nodes[3] = node{Kind: mapped, A: 4}
	bad := each()
	bad.Nodes[2].A = 21
	last := loop()
	last.Edges[7].To = 8
	inputs := net{Nodes: make([]node, 13)}
	for i := range inputs.Nodes {
		inputs.Nodes[i].Kind = input
	}
	return map[string]faulty{
		"nothing":                      {net{}, errBig},
		"no nodes":                     {net{Nodes: []node{}, Edges: loop().Edges}, errBig},
		"too many nodes":               {inputs, errBig},
		"too many edges":               {net{Nodes: alone().Nodes, Edges: make([]edge, 25)}, errBig},
		"as many as there is room for": {many(255, 255), errBig},
		"a node that may not be":       {bad, errNode},
		"a node of no kind":            {net{Nodes: []node{{}}}, errNode},
		"a bad node and a bad edge":    {net{Nodes: []node{{Kind: 255}}, Edges: []edge{{Port: 255}}}, errNode},
		"an edge that leads nowhere":   {last, errEdge},
		"an edge to an Input":          {net{Nodes: alone().Nodes, Edges: []edge{{}}}, errEdge},
		"an edge between two depths":   {deep, errDepth},
		"an input without an edge":     {without, errPort},
		"an unfed loop, and a port":    {net{Nodes: []node{{Kind: concat}}, Edges: []edge{{}}}, errPort},
		"a Reduce behind a Map":        {unrouted, errRoute},
		"a way round without feedback": {unfed, errCycle},
	}
}

// some is all graphs that are named here, and some more.
func some() []net {
	l := []net{many(0, 1), many(1, 0), many(0, 255), many(255, 0), many(254, 255), many(100, 100)}
	for _, g := range runs() {
		l = append(l, g)
	}
	for _, f := range stalls() {
		l = append(l, f.g)
	}
	return l
}

// unfits is graphs that may not be laid down.
func unfits() []net {
	return []net{
		many(256, 0), many(0, 256), many(256, 256), many(257, 1), many(5000, 3), many(3, 5000), many(512, 0), many(0, 512),
		{Nodes: []node{{Kind: 256}}}, {Nodes: []node{{Depth: -1}}}, {Nodes: []node{{A: 32768}}}, {Nodes: []node{{B: -32769}}},
		{Edges: []edge{{From: -1}}}, {Edges: []edge{{To: 256}}}, {Edges: []edge{{Port: -1}}},
		{Nodes: make([]node, 300000), Edges: make([]edge, 300000)},
	}
}

func same(g, h net) bool {
	return slices.Equal(g.Nodes, h.Nodes) && slices.Equal(g.Edges, h.Edges)
}

func clone(g net) net {
	return net{Nodes: slices.Clone(g.Nodes), Edges: slices.Clone(g.Edges)}
}

func isZero(g net) bool {
	return len(g.Nodes) == 0 && len(g.Edges) == 0
}

// spelt is P10.1's bytes word by word, of a graph that there is room for.
func spelt(g net) []byte {
	two := func(n int) (int, int) {
		if n < 0 {
			n += 65536
		}
		return n / 256, n % 256
	}
	var l []int
	for _, n := range g.Nodes {
		high, low := two(n.A)
		higher, lower := two(n.B)
		l = append(l, n.Kind, n.Depth, high, low, higher, lower)
	}
	l = append(l, len(g.Edges))
	for _, e := range g.Edges {
		l = append(l, e.From, e.To, e.Port)
	}
	b := []byte{0x4d, 0x47, byte(len(g.Nodes))}
	for _, x := range l {
		b = append(b, byte(x))
	}
	return b
}

// isSpelt tells whether the bytes begin with the letters, and are just as many as they say.
func isSpelt(b []byte) bool {
	if len(b) < 4 || b[0] != 77 || b[1] != 71 {
		return false
	}
	edges := 3 + 6*int(b[2])
	return edges < len(b) && len(b) == edges+1+3*int(b[edges])
}

func put(t *testing.T, g net) []byte {
	t.Helper()
	b, e := Put(g)
	if e != ok {
		t.Fatal(g, e)
	}
	return b
}

// refused holds that bytes are none of any graph.
func refused(t *testing.T, b []byte) {
	t.Helper()
	if g, e := Take(b); e != errCorrupt || !isZero(g) {
		t.Error("Take", b, g, e)
	}
	if g, e := Load(b); e != errCorrupt || !isZero(g) {
		t.Error("Load", b, g, e)
	}
}

// hold holds of any bytes that they are taken just if they are Put of what is taken, and loaded just if that may run.
func hold(t *testing.T, b []byte) (taken bool) {
	t.Helper()
	g, e := Take(b)
	if !isSpelt(b) {
		refused(t, b)
		return false
	}
	if e != ok {
		t.Fatal(b, e)
	}
	if again, e := Put(g); e != ok || !bytes.Equal(again, b) || !bytes.Equal(spelt(g), b) {
		t.Fatal("not Put of it", b, g, again, e)
	}
	h, f := Load(b)
	if want := valid.Graph(g); f != want || f == ok && !same(g, h) || f != ok && !isZero(h) {
		t.Fatal("Load", b, g, h, f)
	}
	return true
}

// P10.1, Put

func TestTheExample(t *testing.T) {
	b := put(t, pair())
	want := pairBytes()
	if len(b) != len(want) {
		t.Fatal(len(b))
	}
	for i, x := range want {
		if b[i] != x {
			t.Error("byte", i, b[i])
		}
	}
	for _, read := range []func(b []byte) (net, api.Errno){Take, Load} {
		if g, e := read(want); e != ok || !same(g, pair()) {
			t.Error(g, e)
		}
	}
}

func TestPutOfGraphs(t *testing.T) {
	for _, g := range some() {
		if b, e := Put(g); e != ok || !bytes.Equal(b, spelt(g)) {
			t.Error(g, b, e)
		}
	}
	want := "MG\x03" + "\x02\x01\x00\x01\xfc\x18" + "\xff\x00\x80\x00\x7f\xff" + "\x00\xfe\xff\xff\x01\x02" + "\x02" + "\x00\x01\xff" + "\x09\x80\x02"
	g := net{Nodes: []node{{Kind: 2, A: 1, B: -1000, Depth: 1}, {Kind: 255, A: -32768, B: 32767}, {Depth: 254, A: -1, B: 258}}, Edges: []edge{{From: 0, To: 1, Port: 255}, {From: 9, To: 128, Port: 2}}}
	if b := put(t, g); string(b) != want {
		t.Error(b)
	}
}

func TestHowManyThereAre(t *testing.T) {
	for _, nodes := range []int{0, 1, 2, 254, 255, 256, 257, 511, 512, 513, 65536, 65537} {
		for _, edges := range []int{0, 1, 2, 254, 255, 256, 257, 511, 512, 513, 65536, 65537} {
			g := many(nodes, edges)
			b, e := Put(g)
			if nodes > 255 || edges > 255 {
				if e != errArg || len(b) != 0 {
					t.Error(nodes, edges, e)
				}
				continue
			}
			if e != ok || len(b) != 4+6*nodes+3*edges || b[2] != byte(nodes) || b[3+6*nodes] != byte(edges) {
				t.Fatal(nodes, edges, e)
			}
			if h, e := Take(b); e != ok || !same(g, h) || len(h.Nodes) != nodes || len(h.Edges) != edges {
				t.Error(nodes, edges, e)
			}
		}
	}
	if b, e := Put(net{}); e != ok || string(b) != "MG\x00\x00" {
		t.Error(b, e)
	}
	if b, e := Put(net{Nodes: []node{}, Edges: []edge{}}); e != ok || string(b) != "MG\x00\x00" {
		t.Error(b, e)
	}
}

// field is one of the numbers of a node or of an edge: its bytes' place among theirs, how many these are, and the least and the greatest that it may be.
type field struct {
	of          func(g net, i int) *int
	at, wide    int
	least, most int
}

func nodeFields() []field {
	return []field{
		{func(g net, i int) *int { return &g.Nodes[i].Kind }, 0, 1, 0, 255},
		{func(g net, i int) *int { return &g.Nodes[i].Depth }, 1, 1, 0, 255},
		{func(g net, i int) *int { return &g.Nodes[i].A }, 2, 2, -32768, 32767},
		{func(g net, i int) *int { return &g.Nodes[i].B }, 4, 2, -32768, 32767},
	}
}

func edgeFields() []field {
	return []field{
		{func(g net, i int) *int { return &g.Edges[i].From }, 0, 1, 0, 255},
		{func(g net, i int) *int { return &g.Edges[i].To }, 1, 1, 0, 255},
		{func(g net, i int) *int { return &g.Edges[i].Port }, 2, 1, 0, 255},
	}
}

// bounds is numbers at the bounds, beside them and far away from them.
func bounds() []int {
	return []int{
		-1, 0, 1, 2, 127, 128, 129, 254, 255, 256, 257, 511, 512, -2, -127, -128, -129, -254, -255, -256, -257,
		-32769, -32768, -32767, 32766, 32767, 32768, 32769, 65535, 65536, 65537, -65535, -65536, -65537,
		1 << 31, 1<<31 + 1, 1 << 32, 1<<32 + 1, -1 << 32, 1 << 40, -1 << 40,
		math.MinInt, math.MinInt + 1, math.MinInt + 255, math.MaxInt - 255, math.MaxInt - 1, math.MaxInt,
	}
}

// holdField sets one number of the i-th of the graph's nodes or edges, whose bytes begin at start, and holds what Put makes of it.
func holdField(t *testing.T, sound net, f field, i, start, x int) {
	t.Helper()
	before := put(t, sound)
	g := clone(sound)
	*f.of(g, i) = x
	b, e := Put(g)
	if x < f.least || x > f.most {
		if e != errArg || len(b) != 0 {
			t.Error(i, f.at, x, b, e)
		}
		return
	}
	want := slices.Clone(before)
	if f.wide == 2 {
		want[start+f.at] = byte((x + 65536) % 65536 / 256)
		want[start+f.at+1] = byte((x + 65536) % 256)
	} else {
		want[start+f.at] = byte(x)
	}
	if e != ok || !bytes.Equal(b, want) {
		t.Error(i, f.at, x, b, e)
	}
	if h, e := Take(b); e != ok || !same(g, h) || *f.of(h, i) != x {
		t.Error(i, f.at, x, h, e)
	}
}

func TestEachNumber(t *testing.T) {
	sounds := []net{loop(), each(), many(255, 255), many(1, 1), {Nodes: make([]node, 3), Edges: make([]edge, 3)}}
	for _, sound := range sounds {
		for _, x := range bounds() {
			last := len(sound.Nodes) - 1
			for _, i := range []int{0, last / 2, last} {
				for _, f := range nodeFields() {
					holdField(t, sound, f, i, 3+6*i, x)
				}
			}
			end := len(sound.Edges) - 1
			for _, i := range []int{0, end / 2, end} {
				for _, f := range edgeFields() {
					holdField(t, sound, f, i, 4+6*len(sound.Nodes)+3*i, x)
				}
			}
		}
	}
}

func TestAllNumbersThatThereIsRoomFor(t *testing.T) {
	for x := range 65536 {
		g := net{Nodes: []node{{A: x - 32768, B: 32767 - x}}}
		b, e := Put(g)
		if h, f := Take(b); e != ok || f != ok || !same(g, h) || !bytes.Equal(b, spelt(g)) {
			t.Fatal(x, b, e, h, f)
		}
	}
	for x := range 256 {
		g := net{Nodes: []node{{Kind: x, Depth: 255 - x}}, Edges: []edge{{From: x, To: 255 - x, Port: x ^ 85}}}
		b, e := Put(g)
		if h, f := Take(b); e != ok || f != ok || !same(g, h) || !bytes.Equal(b, spelt(g)) {
			t.Fatal(x, b, e, h, f)
		}
	}
}

func TestOneUnfitNumberAmongMany(t *testing.T) {
	for i := range 255 {
		for _, f := range nodeFields() {
			for _, x := range []int{f.least - 1, f.most + 1} {
				g := many(255, 255)
				*f.of(g, i) = x
				if b, e := Put(g); e != errArg || len(b) != 0 {
					t.Error("node", i, f.at, x, e)
				}
			}
		}
		for _, f := range edgeFields() {
			for _, x := range []int{f.least - 1, f.most + 1} {
				g := many(255, 255)
				*f.of(g, i) = x
				if b, e := Put(g); e != errArg || len(b) != 0 {
					t.Error("edge", i, f.at, x, e)
				}
			}
		}
	}
}

func TestPutOfWhatThereIsNoRoomFor(t *testing.T) {
	for i, g := range unfits() {
		if b, e := Put(g); e != errArg || len(b) != 0 {
			t.Error(i, e, len(b))
		}
	}
}

// P10.1, Take

func TestBytesThatAreNone(t *testing.T) {
	for _, b := range [][]byte{nil, {}, {0}, {77}, {71}, {77, 71}, {77, 71, 0}, {77, 71, 1}, {77, 71, 0, 1}, {77, 71, 1, 0}, {71, 77, 0, 0}, {0, 0, 0, 0}, {0, 0}, {77, 71, 0, 0, 0}, {77, 71, 0, 0, 77, 71, 0, 0}, []byte("mg\x00\x00"), []byte("MGMG\x00\x00"), {77, 71, 255}, {77, 71, 0, 255}, {77, 71, 255, 255}} {
		refused(t, b)
	}
	refused(t, make([]byte, 5000))
	refused(t, bytes.Repeat([]byte{255}, 5000))
	refused(t, append([]byte("MG"), bytes.Repeat([]byte{255}, 5000)...))
}

func TestOtherLetters(t *testing.T) {
	for _, g := range some() {
		for i := range 2 {
			for x := range 256 {
				b := put(t, g)
				if b[i] == byte(x) {
					continue
				}
				b[i] = byte(x)
				refused(t, b)
			}
		}
		refused(t, put(t, g)[1:])
		refused(t, put(t, g)[2:])
		refused(t, append([]byte{0}, put(t, g)...))
		refused(t, append([]byte("MG"), put(t, g)...))
	}
}

func TestLessAndMoreBytes(t *testing.T) {
	for _, g := range some() {
		b := put(t, g)
		for n := range b {
			refused(t, b[:n:n])
			if n%7 == 0 { // what lies behind a list's end is none of it
				refused(t, b[:n])
			}
		}
		for _, more := range []int{1, 2, 3, 6, 255, 4096} {
			refused(t, append(slices.Clone(b), make([]byte, more)...))
			refused(t, append(slices.Clone(b), bytes.Repeat([]byte{1}, more)...))
		}
		refused(t, append(slices.Clone(b), b...))
	}
}

func TestOtherNumbersOfNodesAndEdges(t *testing.T) {
	for _, g := range some() {
		sound := put(t, g)
		for _, x := range []int{len(g.Edges) - 1, len(g.Edges) + 1, len(g.Edges) + 2, 0, 255} {
			b := slices.Clone(sound)
			b[3+6*len(g.Nodes)] = byte(x)
			if x%256 != len(g.Edges) {
				refused(t, b)
			}
		}
		for _, x := range []int{len(g.Nodes) - 1, len(g.Nodes) + 1, len(g.Nodes) + 2, 0, 255} {
			b := slices.Clone(sound)
			b[2] = byte(x)
			hold(t, b) // by chance they may be those of another graph
		}
	}
	for _, g := range []net{loop(), each(), row(), pair(), alone()} {
		for _, x := range []int{len(g.Nodes) - 1, len(g.Nodes) + 1, 255} {
			b := put(t, g)
			b[2] = byte(x)
			refused(t, b)
		}
	}
}

func TestEachByteAtEachPlace(t *testing.T) {
	for _, g := range []net{{}, alone(), pair(), row(), loop(), each(), {Edges: make([]edge, 2)}, many(3, 3)} {
		taken := 0
		for i := range put(t, g) {
			for x := range 256 {
				b := put(t, g)
				b[i] = byte(x)
				if hold(t, b) {
					taken++
				}
			}
		}
		if least := 256 * (6*len(g.Nodes) + 3*len(g.Edges)); taken < least {
			t.Error("too few of them are graphs", taken, least)
		}
	}
}

// dice throws numbers, the same ones each time.
type dice uint64

func (d *dice) below(n int) int {
	*d = *d*6364136223846793005 + 1442695040888963407
	return int(uint64(*d)>>33) % n
}

func (d *dice) bytes(n int) []byte {
	b := make([]byte, n)
	for i := range b {
		b[i] = byte(d.below(256))
	}
	return b
}

func TestThrownBytes(t *testing.T) {
	d := dice(1)
	taken := 0
	for range 60000 {
		b := d.bytes(d.below(60))
		hold(t, b)
		if len(b) > 3 { // with the letters, few nodes and few edges
			b[0], b[1], b[2] = 77, 71, byte(d.below(4))
			if at := 3 + 6*int(b[2]); at < len(b) {
				b[at] = byte(d.below(6))
			}
			if hold(t, b) {
				taken++
			}
		}
	}
	if taken < 500 {
		t.Error("too few of them are graphs", taken)
	}
}

func TestBytesWithOneThrown(t *testing.T) {
	d := dice(2)
	for _, g := range some() {
		sound := put(t, g)
		for range 40 {
			b := slices.Clone(sound)
			b[d.below(len(b))] = byte(d.below(256))
			hold(t, b)
			at := d.below(len(sound))
			hold(t, slices.Delete(slices.Clone(sound), at, at+1))
			hold(t, slices.Insert(slices.Clone(sound), at, byte(d.below(256))))
		}
	}
}

func TestNoTwoBytesOfOneGraph(t *testing.T) {
	graphs := some()
	for i, g := range graphs {
		for j, h := range graphs {
			if bytes.Equal(put(t, g), put(t, h)) != same(g, h) {
				t.Error(i, j)
			}
		}
	}
}

// P10.1, Load

func TestLoadOfWhatMayRun(t *testing.T) {
	for name, g := range runs() {
		if h, e := Load(put(t, g)); e != ok || !same(g, h) {
			t.Error(name, h, e)
		}
	}
}

func TestLoadOfWhatMayNotRun(t *testing.T) {
	told := map[api.Errno]int{}
	for name, f := range stalls() {
		b := put(t, f.g)
		if g, e := Load(b); e != f.e || !isZero(g) {
			t.Error(name, e, len(g.Nodes), len(g.Edges))
		}
		if g, e := Take(b); e != ok || !same(g, f.g) {
			t.Error(name, g, e)
		}
		told[f.e]++
	}
	if len(told) != 7 {
		t.Error("not each error of valid", told)
	}
}

func TestLoadTellsFirstOfTheBytes(t *testing.T) {
	for _, f := range stalls() {
		b := put(t, f.g)
		refused(t, append(b, 0))
		refused(t, b[:len(b)-1])
		refused(t, append([]byte("Mg"), b[2:]...))
	}
}

// P10.2

func TestTakeOfPut(t *testing.T) {
	for _, g := range some() {
		if h, e := Take(put(t, g)); e != ok || !same(g, h) {
			t.Error(g, h, e)
		}
	}
	d := dice(3)
	for range 3000 {
		g := net{}
		for range d.below(14) {
			g.Nodes = append(g.Nodes, node{Kind: d.below(256), Depth: d.below(256), A: d.below(65536) - 32768, B: d.below(65536) - 32768})
		}
		for range d.below(27) {
			g.Edges = append(g.Edges, edge{From: d.below(256), To: d.below(256), Port: d.below(256)})
		}
		if h, e := Take(put(t, g)); e != ok || !same(g, h) {
			t.Fatal(g, h, e)
		}
	}
}

// R1

func TestEachCallEnds(t *testing.T) {
	far := []int{math.MinInt, math.MinInt + 1, -1, 0, 1, 255, math.MaxInt - 1, math.MaxInt}
	for _, x := range far {
		for _, y := range far {
			Put(net{Nodes: []node{{Kind: x, A: y, B: x, Depth: y}}, Edges: []edge{{From: y, To: x, Port: y}}})
			Put(net{Nodes: []node{{}, {A: x, B: y}}, Edges: []edge{{From: x}, {Port: y}}})
		}
	}
	b := append([]byte("MG"), make([]byte, 1<<20)...)
	for x := range 256 {
		b[2] = byte(x)
		refused(t, b)
	}
}

// R6

func TestTheSameAgain(t *testing.T) {
	graphs := append(some(), unfits()...)
	for _, g := range graphs {
		b, e := Put(g)
		h, f := Load(b)
		keptBytes, kept := slices.Clone(b), clone(h)
		for _, other := range graphs {
			if len(other.Nodes) < 1000 {
				c, _ := Put(other)
				Load(c)
				Take(c[:len(c)/2])
			}
		}
		if !bytes.Equal(b, keptBytes) || !same(h, kept) {
			t.Error("changed by a later call", len(g.Nodes))
		}
		again, e2 := Put(g)
		if !bytes.Equal(again, keptBytes) || e != e2 {
			t.Error("Put", len(g.Nodes), e, e2)
		}
		if h2, f2 := Load(b); !same(h2, kept) || f != f2 {
			t.Error("Load", len(g.Nodes), f, f2)
		}
	}
}

// R7

func TestTheGraphIsNotChanged(t *testing.T) {
	for _, g := range append(some(), unfits()...) {
		nodes := append(make([]node, 0, len(g.Nodes)+3), g.Nodes...)
		edges := append(make([]edge, 0, len(g.Edges)+3), g.Edges...)
		allNodes, allEdges := nodes[:cap(nodes)], edges[:cap(edges)]
		for i := len(nodes); i < cap(nodes); i++ {
			allNodes[i] = node{Kind: 77, Depth: i % 256}
		}
		for i := len(edges); i < cap(edges); i++ {
			allEdges[i] = edge{From: 77, To: i % 256}
		}
		keptNodes, keptEdges := slices.Clone(allNodes), slices.Clone(allEdges)
		want, e := Put(g)
		b, f := Put(net{Nodes: nodes, Edges: edges})
		if !bytes.Equal(b, want) || e != f {
			t.Error("it hangs on the spare room", len(g.Nodes), e, f)
		}
		if !slices.Equal(allNodes, keptNodes) || !slices.Equal(allEdges, keptEdges) {
			t.Error("changed", len(g.Nodes))
		}
	}
}

func TestTheBytesAreNotChanged(t *testing.T) {
	for _, g := range some() {
		sound := put(t, g)
		for _, end := range []int{len(sound), len(sound) - 1, len(sound) / 2, 2, 0} {
			all := append(slices.Clone(sound), 1, 2, 3)
			kept := slices.Clone(all)
			for _, read := range []func(b []byte) (net, api.Errno){Take, Load} {
				h, e := read(all[:end])
				h2, e2 := read(slices.Clone(sound[:end]))
				if !same(h, h2) || e != e2 {
					t.Error("it hangs on what lies behind", end, e, e2)
				}
			}
			if !bytes.Equal(all, kept) {
				t.Error("changed", end)
			}
		}
	}
}

// spoil changes all of a graph, and all the room behind its lists.
func spoil(g net) {
	nodes := g.Nodes[:cap(g.Nodes)]
	for i := range nodes {
		nodes[i] = node{Kind: 99, A: 99, B: 99, Depth: 99}
	}
	edges := g.Edges[:cap(g.Edges)]
	for i := range edges {
		edges[i] = edge{From: 99, To: 99, Port: 99}
	}
}

func spoilBytes(b []byte) {
	all := b[:cap(b)]
	for i := range all {
		all[i] ^= 0xa5
	}
}

func TestTheBytesAreTheCallersOwn(t *testing.T) {
	for _, g := range some() {
		kept := clone(g)
		first, second := put(t, g), put(t, g)
		spoilBytes(first)
		if !bytes.Equal(second, spelt(g)) || !bytes.Equal(put(t, g), spelt(g)) || !same(g, kept) {
			t.Error("an answer is shared", g)
		}
		h := clone(g)
		b := put(t, h)
		spoil(h)
		if !bytes.Equal(b, spelt(g)) {
			t.Error("an answer is shared with the graph", g)
		}
	}
}

func TestTheGraphIsTheCallersOwn(t *testing.T) {
	for _, g := range some() {
		for _, read := range []func(b []byte) (net, api.Errno){Take, Load} {
			b := put(t, g)
			want, e := read(b)
			if e != ok {
				continue
			}
			kept := clone(want)
			first, _ := read(b)
			spoil(first)
			if !same(want, kept) || !bytes.Equal(b, spelt(g)) {
				t.Error("an answer is shared", g)
			}
			if second, _ := read(b); !same(second, kept) {
				t.Error("an answer is kept", g)
			}
			spoilBytes(b)
			if !same(want, kept) {
				t.Error("an answer is shared with the bytes", g)
			}
		}
	}
}
