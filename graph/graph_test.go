package graph

import (
	"math"
	"math/rand"
	"reflect"
	"slices"
	"testing"

	"elasticstore/api"
	"elasticstore/config"
	"elasticstore/interval"
	"elasticstore/proposal"
)

var (
	majority = api.Rule{Kind: api.RuleMajority}
	weighted = api.Rule{Kind: api.RuleWeighted}
	grid     = api.Rule{Kind: api.RuleGrid, Columns: 3}
	masking  = api.Rule{Kind: api.RuleMasking, Faulty: 2}
)

func join(server, weight int) api.Change {
	return api.Change{Kind: api.ChangeJoin, Server: server, Weight: weight}
}

func remove(server int) api.Change { return api.Change{Kind: api.ChangeRemove, Server: server} }

func weight(server, weight, version int) api.Change {
	return api.Change{Kind: api.ChangeWeight, Server: server, Weight: weight, Version: version}
}

func rule(r api.Rule, version int) api.Change {
	return api.Change{Kind: api.ChangeRule, Version: version, Rule: r}
}

func of(admin, number int, changes ...api.Change) api.Proposal {
	return api.Proposal{Admin: admin, Number: number, Changes: changes}
}

// samples returns valid proposals with all identifiers, ascending. They differ in their changes, too.
func samples() []api.Proposal {
	return []api.Proposal{
		of(201, 1, join(4, 2), remove(1)), of(201, 2, rule(grid, 7)), of(201, 3, join(7, 3), weight(2, 4, 2), remove(4)),
		of(202, 1, join(5, 1)), of(202, 2, remove(5), rule(weighted, 9), weight(3, 8, 1)), of(202, 3, remove(12)),
		of(203, 1, weight(2, 9, 1)), of(203, 2, join(8, 1), join(9, 2), join(10, 3), join(11, 4), join(12, 5), remove(2)), of(203, 3, rule(masking, 9)),
	}
}

// randomProposals returns valid proposals with all identifiers, ascending, whose changes are sometimes the same.
func randomProposals(r *rand.Rand) []api.Proposal {
	var out []api.Proposal
	for i := range 9 {
		p := of(201+i/3, 1+i%3)
		for size := 1 + r.Intn(api.MaxChanges); len(p.Changes) < size; {
			server := 1 + r.Intn(4+8*r.Intn(2))
			c := []api.Change{join(server, 1+r.Intn(9)), remove(server), weight(server, 1+r.Intn(9), 1+r.Intn(3)), rule([]api.Rule{majority, weighted, grid, masking}[r.Intn(4)], 1+r.Intn(3))}[r.Intn(4)]
			if q := of(p.Admin, p.Number, append(p.Changes, c)...); proposal.Validate(q) == api.OK {
				p = q
			}
		}
		out = append(out, p)
	}
	return out
}

// counts is the model of a configuration: the number of proposals of 201, 202 and 203.
type counts [3]int

// config returns the configuration with the first proposals of each administrator.
func (n counts) config(proposals []api.Proposal) api.Config {
	return slices.Concat(proposals[:n[0]], proposals[3:3+n[1]], proposals[6:6+n[2]])
}

// contains reports whether the configuration of n contains that of m.
func (n counts) contains(m counts) bool { return n[0] >= m[0] && n[1] >= m[1] && n[2] >= m[2] }

// size returns the number of proposals.
func (n counts) size() int { return n[0] + n[1] + n[2] }

// everything returns the models of all configurations, in ascending lexicographic order.
func everything() []counts {
	var out []counts
	for x := range 4 {
		for y := range 4 {
			for z := range 4 {
				out = append(out, counts{x, y, z})
			}
		}
	}
	return out
}

// model is the model of a graph: those of its nodes.
type model []counts

// full returns the model of the graph of all configurations.
func full() model { return everything() }

// between returns the model of the graph of an interval, by the definition.
func between(from, to counts) model {
	return full().filtered(func(n counts) bool { return n.contains(from) && to.contains(n) })
}

func (m model) filtered(wanted func(counts) bool) model {
	return slices.DeleteFunc(slices.Clone(m), func(n counts) bool { return !wanted(n) })
}

func (m model) contracted(base counts) model {
	return m.filtered(func(n counts) bool { return n.contains(base) })
}

func (m model) pruned(learned counts) model {
	return m.filtered(func(n counts) bool { return n.contains(learned) || learned.contains(n) })
}

// edges returns the edges of the graph, by the definition.
func (m model) edges() [][2]int {
	var out [][2]int
	for i, a := range m {
		for j, b := range m {
			if b == (counts{a[0] + 1, a[1], a[2]}) || b == (counts{a[0], a[1] + 1, a[2]}) || b == (counts{a[0], a[1], a[2] + 1}) {
				out = append(out, [2]int{i, j})
			}
		}
	}
	return out
}

// levels returns the levels of the graph, by the definition.
func (m model) levels() [][]int {
	var out [][]int
	for size := range 10 {
		var level []int
		for i, n := range m {
			if n.size() == size {
				level = append(level, i)
			}
		}
		if len(level) > 0 {
			out = append(out, level)
		}
	}
	return out
}

// sequences returns all sequences of nodes that begin with from, end with to, and follow edges.
func sequences(edges [][2]int, from, to int) [][]int {
	if from == to {
		return [][]int{{to}} // no edges lead back
	}
	var out [][]int
	for _, e := range edges {
		if e[0] == from && e[1] <= to {
			for _, s := range sequences(edges, e[1], to) {
				out = append(out, append([]int{from}, s...))
			}
		}
	}
	return out
}

// graph returns the graph of a model.
func (m model) graph(proposals []api.Proposal) Graph {
	g := Graph{Edges: m.edges()}
	for _, n := range m {
		g.Nodes = append(g.Nodes, n.config(proposals))
	}
	return g
}

// same reports whether two graphs are equal, by reflection. Empty lists are equal to nil.
func same(a, b Graph) bool {
	return slices.Equal(a.Edges, b.Edges) && slices.EqualFunc(a.Nodes, b.Nodes, func(c, d api.Config) bool {
		return len(c) == 0 && len(d) == 0 || reflect.DeepEqual(c, d)
	})
}

func sameLevels(a, b [][]int) bool { return slices.EqualFunc(a, b, slices.Equal[[]int]) }

// forEachInterval calls check for the ends of all intervals, empty ones too.
func forEachInterval(check func(from, to counts)) {
	for _, from := range everything() {
		for _, to := range everything() {
			check(from, to)
		}
	}
}

// forSomeModels calls check for models of graphs that have been built, contracted and pruned at random.
func forSomeModels(seed int64, check func(m model)) {
	r := rand.New(rand.NewSource(seed))
	pick := func(last int) counts { return counts{r.Intn(last), r.Intn(last), r.Intn(last)} }
	for range 60 {
		m := full()
		for range 1 + r.Intn(3) {
			check(m)
			m = m.pruned(pick(4))
		}
		check(m.contracted(pick(2)))
	}
}

// P10.1

func TestExamples(t *testing.T) {
	for _, x := range []struct {
		name     string
		from, to counts
		nodes    model
		edges    [][2]int
	}{
		{"the example of the chapter", counts{}, counts{1, 1, 0}, model{{}, {0, 1, 0}, {1, 0, 0}, {1, 1, 0}}, [][2]int{{0, 1}, {0, 2}, {1, 3}, {2, 3}}},
		{"one administrator", counts{0, 1, 0}, counts{0, 3, 0}, model{{0, 1, 0}, {0, 2, 0}, {0, 3, 0}}, [][2]int{{0, 1}, {1, 2}}},
		{"two proposals of one of two", counts{0, 0, 1}, counts{1, 0, 3}, model{{0, 0, 1}, {0, 0, 2}, {0, 0, 3}, {1, 0, 1}, {1, 0, 2}, {1, 0, 3}},
			[][2]int{{0, 1}, {0, 3}, {1, 2}, {1, 4}, {2, 5}, {3, 4}, {4, 5}}},
		{"equal ends", counts{1, 2, 3}, counts{1, 2, 3}, model{{1, 2, 3}}, nil},
		{"empty ends", counts{}, counts{}, model{{}}, nil},
		{"reversed ends", counts{1, 0, 0}, counts{}, nil, nil},
		{"ends that are not comparable", counts{1, 0, 0}, counts{0, 3, 3}, nil, nil},
	} {
		g := Build(x.from.config(samples()), x.to.config(samples()))
		if !same(g, Graph{Nodes: x.nodes.graph(samples()).Nodes, Edges: x.edges}) {
			t.Errorf("%s: Build = %v", x.name, g)
		}
	}
}

func TestBuildIsDefinition(t *testing.T) {
	r := rand.New(rand.NewSource(1))
	forEachInterval(func(from, to counts) {
		proposals := randomProposals(r)
		a, b := from.config(proposals), to.config(proposals)
		g := Build(a, b)
		if want := between(from, to); !same(g, want.graph(proposals)) {
			t.Errorf("Build(%v, %v) = %v", from, to, g)
		}
		if !slices.EqualFunc(g.Nodes, interval.All(a, b), config.Equal) {
			t.Errorf("Build(%v, %v) has the nodes %v", from, to, g.Nodes)
		}
	})
}

// checkOrder reports nodes and edges that are not in ascending order, and edges that do not add exactly one proposal.
func checkOrder(t *testing.T, g Graph) {
	for i := 1; i < len(g.Nodes); i++ {
		if config.Equal(g.Nodes[i], g.Nodes[i-1]) || config.Contains(g.Nodes[i-1], g.Nodes[i]) {
			t.Errorf("node %d is not behind node %d: %v", i, i-1, g.Nodes)
		}
	}
	for i, e := range g.Edges {
		if i > 0 && slices.Compare(g.Edges[i-1][:], e[:]) >= 0 {
			t.Errorf("edge %d is not behind edge %d: %v", i, i-1, g.Edges)
		}
		if interval.Count(g.Nodes[e[0]], g.Nodes[e[1]]) != 2 {
			t.Errorf("edge %d leads from %v to %v", i, g.Nodes[e[0]], g.Nodes[e[1]])
		}
	}
}

// P10.2

func TestContractAndPruneExamples(t *testing.T) {
	square := model{{}, {0, 1, 0}, {1, 0, 0}, {1, 1, 0}}
	for _, x := range []struct {
		name       string
		m          model
		n          counts
		contracted model
		pruned     model
		edges      [][2]int // of pruned
	}{
		{"to the first node", square, counts{}, square, square, [][2]int{{0, 1}, {0, 2}, {1, 3}, {2, 3}}},
		{"to the last node", square, counts{1, 1, 0}, model{{1, 1, 0}}, square, [][2]int{{0, 1}, {0, 2}, {1, 3}, {2, 3}}},
		{"to a node between", square, counts{1, 0, 0}, model{{1, 0, 0}, {1, 1, 0}}, model{{}, {1, 0, 0}, {1, 1, 0}}, [][2]int{{0, 1}, {1, 2}}},
		{"to another node between", square, counts{0, 1, 0}, model{{0, 1, 0}, {1, 1, 0}}, model{{}, {0, 1, 0}, {1, 1, 0}}, [][2]int{{0, 1}, {1, 2}}},
		{"to a configuration above", square, counts{2, 2, 2}, nil, square, [][2]int{{0, 1}, {0, 2}, {1, 3}, {2, 3}}},
		{"to a configuration beside", square, counts{2, 0, 0}, nil, model{{}, {1, 0, 0}}, [][2]int{{0, 1}}},
		{"to a configuration far beside", square, counts{0, 0, 1}, nil, model{{}}, nil},
		{"to a configuration below", square[3:], counts{}, square[3:], square[3:], nil},
		{"to an incomparable configuration", square[2:3], counts{0, 1, 0}, nil, nil, nil},
		{"a node that loses all its edges", square[1:], counts{1, 1, 0}, square[3:], square[1:], [][2]int{{0, 2}, {1, 2}}},
		{"nodes with no edge between them", model{{}, {1, 0, 0}, {1, 0, 1}, {2, 1, 1}}, counts{2, 1, 1}, model{{2, 1, 1}}, model{{}, {1, 0, 0}, {1, 0, 1}, {2, 1, 1}}, [][2]int{{0, 1}, {1, 2}}},
		{"no nodes", nil, counts{1, 0, 0}, nil, nil, nil},
	} {
		g, c := x.m.graph(samples()), x.n.config(samples())
		if got := Contract(g, c); !same(got, x.contracted.graph(samples())) {
			t.Errorf("%s: Contract = %v", x.name, got)
		}
		if got := Prune(g, c); !same(got, Graph{Nodes: x.pruned.graph(samples()).Nodes, Edges: x.edges}) {
			t.Errorf("%s: Prune = %v", x.name, got)
		}
	}
}

// checkKept compares Contract and Prune with their definitions.
func checkKept(t *testing.T, m model, n counts, proposals []api.Proposal) {
	g, c := m.graph(proposals), n.config(proposals)
	if got := Contract(g, c); !same(got, m.contracted(n).graph(proposals)) {
		t.Errorf("Contract(%v, %v) = %v", m, n, got)
	}
	if got := Prune(g, c); !same(got, m.pruned(n).graph(proposals)) {
		t.Errorf("Prune(%v, %v) = %v", m, n, got)
	}
}

func TestContractAndPruneAreDefinition(t *testing.T) {
	r := rand.New(rand.NewSource(2))
	for _, n := range everything() {
		checkKept(t, full(), n, randomProposals(r))
	}
	forEachInterval(func(from, to counts) {
		checkKept(t, between(from, to), everything()[r.Intn(64)], samples())
	})
	forSomeModels(3, func(m model) { checkKept(t, m, everything()[r.Intn(64)], samples()) })
}

// What is true of the graphs of Build is true of those of Contract and Prune, in any sequence.
func TestSequencesOfCalls(t *testing.T) {
	r := rand.New(rand.NewSource(4))
	for range 40 {
		proposals, m := randomProposals(r), full()
		g := Build(nil, proposals)
		for range 4 {
			n := counts{r.Intn(4), r.Intn(4), r.Intn(4)}
			if r.Intn(3) > 0 {
				g, m = Prune(g, n.config(proposals)), m.pruned(n)
			} else {
				n = counts{n[0] / 2, n[1] / 2, n[2] / 2}
				g, m = Contract(g, n.config(proposals)), m.contracted(n)
			}
			checkOrder(t, g)
			if !same(g, m.graph(proposals)) {
				t.Fatalf("the graph of %v is %v", m, g)
			}
		}
	}
}

// different returns a graph with two nodes, and graphs that differ from it.
func different() (Graph, []Graph) {
	c, other := api.Config(samples()[:1]), api.Config{of(201, 1, remove(1))}
	edge := [][2]int{{0, 1}}
	return Graph{Nodes: []api.Config{nil, c}, Edges: edge}, []Graph{
		{}, {Nodes: []api.Config{nil, c}}, {Edges: edge}, {Nodes: []api.Config{nil}, Edges: edge}, {Nodes: []api.Config{nil, c, c}, Edges: edge},
		{Nodes: []api.Config{c, nil}, Edges: edge}, {Nodes: []api.Config{c, c}, Edges: edge}, {Nodes: []api.Config{nil, other}, Edges: edge},
		{Nodes: []api.Config{nil, samples()[:2]}, Edges: edge}, {Nodes: []api.Config{nil, c}, Edges: [][2]int{{1, 0}}}, {Nodes: []api.Config{nil, c}, Edges: [][2]int{{0, 0}}},
		{Nodes: []api.Config{nil, c}, Edges: [][2]int{{0, 1}, {0, 1}}}, {Nodes: []api.Config{nil, c}, Edges: [][2]int{{0, 1}, {1, 1}}},
	}
}

func TestEqual(t *testing.T) {
	g, others := different()
	if !Equal(g, Build(nil, samples()[:1])) || !Equal(g, g) {
		t.Error("a graph is not equal to itself")
	}
	for i, h := range others {
		if Equal(g, h) || Equal(h, g) || !Equal(h, h) {
			t.Errorf("graph %d: %v", i, h)
		}
	}
	forSomeModels(5, func(m model) {
		a, b := m.graph(samples()), full().graph(samples())
		if !Equal(a, m.graph(samples())) || Equal(a, b) != (len(m) == 64) || Equal(b, a) != (len(m) == 64) {
			t.Errorf("Equal of the graph of %v", m)
		}
	})
}

// P10.3

func TestLevels(t *testing.T) {
	for _, x := range []struct {
		name string
		m    model
		want [][]int
	}{
		{"no nodes", nil, nil},
		{"the empty configuration", model{{}}, [][]int{{0}}},
		{"one node", model{{3, 2, 1}}, [][]int{{0}}},
		{"the example of the chapter", between(counts{}, counts{1, 1, 0}), [][]int{{0}, {1, 2}, {3}}},
		{"three administrators", between(counts{}, counts{1, 1, 1}), [][]int{{0}, {1, 2, 4}, {3, 5, 6}, {7}}},
		{"two proposals of one", between(counts{}, counts{1, 0, 2}), [][]int{{0}, {1, 3}, {2, 4}, {5}}},
		{"numbers that do not occur", model{{}, {1, 0, 2}, {2, 0, 1}, {3, 3, 3}}, [][]int{{0}, {1, 2}, {3}}},
		{"greater configurations first", model{{0, 0, 3}, {0, 1, 1}, {1, 0, 0}, {2, 0, 0}, {2, 2, 0}}, [][]int{{2}, {1, 3}, {0}, {4}}},
	} {
		if got := Levels(x.m.graph(samples())); !sameLevels(got, x.want) {
			t.Errorf("%s: Levels = %v, want %v", x.name, got, x.want)
		}
	}
}

func TestLevelsAreDefinition(t *testing.T) {
	check := func(m model) {
		if got := Levels(m.graph(samples())); !sameLevels(got, m.levels()) {
			t.Errorf("Levels(%v) = %v, want %v", m, got, m.levels())
		}
	}
	forEachInterval(func(from, to counts) { check(between(from, to)) })
	forSomeModels(6, check)
}

func TestPathExamples(t *testing.T) {
	square, cube := between(counts{}, counts{1, 1, 0}), between(counts{}, counts{1, 1, 1})
	for _, x := range []struct {
		name     string
		m        model
		from, to int
		path     []int
		number   int
	}{
		{"the example of the chapter", square, 0, 3, []int{0, 1, 3}, 2},
		{"from a node to itself", square, 2, 2, []int{2}, 1},
		{"the last node", square, 3, 3, []int{3}, 1},
		{"one edge", square, 2, 3, []int{2, 3}, 1},
		{"nodes that are not comparable", square, 1, 2, nil, 0},
		{"backwards", square, 3, 0, nil, 0},
		{"backwards along an edge", square, 1, 0, nil, 0},
		{"three administrators", cube, 0, 7, []int{0, 1, 3, 7}, 6},
		{"the smaller index first", cube, 2, 7, []int{2, 3, 7}, 2},
		{"not by the first edge", cube, 0, 6, []int{0, 2, 6}, 2},
		{"all configurations", full(), 0, 63, []int{0, 1, 2, 3, 7, 11, 15, 31, 47, 63}, 1680},
		{"between two of all configurations", full(), 16, 42, []int{16, 17, 18, 22, 26, 42}, 30},
		{"only with a gap", model{{}, {1, 1, 0}}, 0, 1, nil, 0},
		{"a gap in the middle", model{{}, {0, 1, 0}, {1, 2, 0}, {2, 2, 0}}, 0, 3, nil, 0},
		{"a dead end first", model{{}, {0, 0, 1}, {0, 0, 2}, {0, 1, 0}, {0, 2, 0}}, 0, 4, []int{0, 3, 4}, 1},
		{"behind a gap", model{{}, {0, 1, 0}, {1, 2, 0}, {2, 2, 0}}, 2, 3, []int{2, 3}, 1},
		{"an index below all nodes", square, -1, 0, nil, 0},
		{"to an index below all nodes", square, 0, -1, nil, 0},
		{"an index behind all nodes", square, 4, 3, nil, 0},
		{"to an index behind all nodes", square, 0, 4, nil, 0},
		{"equal indexes behind all nodes", square, 4, 4, nil, 0},
		{"equal indexes below all nodes", square, -1, -1, nil, 0},
		{"the least indexes", square, math.MinInt, math.MinInt, nil, 0},
		{"the greatest indexes", square, math.MaxInt, math.MaxInt, nil, 0},
		{"from the least to the greatest index", square, math.MinInt, math.MaxInt, nil, 0},
		{"from a node to the greatest index", square, 3, math.MaxInt, nil, 0},
		{"no nodes", nil, 0, 0, nil, 0},
	} {
		g := x.m.graph(samples())
		if got := Path(g, x.from, x.to); !slices.Equal(got, x.path) {
			t.Errorf("%s: Path = %v, want %v", x.name, got, x.path)
		}
		if got := Paths(g, x.from, x.to); got != x.number {
			t.Errorf("%s: Paths = %d, want %d", x.name, got, x.number)
		}
	}
}

// checkPaths compares Path and Paths with their definitions.
func checkPaths(t *testing.T, g Graph) {
	for from := range g.Nodes {
		for to := range g.Nodes {
			all := sequences(g.Edges, from, to)
			if got := Paths(g, from, to); got != len(all) {
				t.Errorf("Paths(%v, %d, %d) = %d, want %d", g, from, to, got, len(all))
			}
			var want []int
			if len(all) > 0 {
				want = slices.MinFunc(all, slices.Compare[[]int])
			}
			if got := Path(g, from, to); !slices.Equal(got, want) {
				t.Errorf("Path(%v, %d, %d) = %v, want %v", g, from, to, got, want)
			}
		}
	}
}

func TestPathsAreDefinition(t *testing.T) {
	checkPaths(t, full().graph(samples()))
	for _, to := range everything() {
		if to.size() < 6 {
			checkPaths(t, Build(nil, to.config(samples())))
		}
	}
	r := rand.New(rand.NewSource(7))
	for range 40 {
		g := Prune(Build(counts{r.Intn(2), r.Intn(2), r.Intn(2)}.config(samples()), samples()), counts{r.Intn(4), r.Intn(4), r.Intn(4)}.config(samples()))
		checkPaths(t, Prune(g, counts{r.Intn(4), r.Intn(4), r.Intn(4)}.config(samples())))
	}
}

// P10.4

func TestContractIsBuild(t *testing.T) {
	for _, to := range everything() {
		for _, base := range between(counts{}, to) {
			for _, from := range []counts{{}, {base[0], 0, 0}, {base[0], base[1] / 2, base[2]}, base} {
				f, b, last := from.config(samples()), base.config(samples()), to.config(samples())
				if got := Contract(Build(f, last), b); !Equal(got, Build(b, last)) {
					t.Fatalf("Contract(Build(%v, %v), %v) = %v", from, to, base, got)
				}
			}
		}
	}
}

func TestPruneKeepsComparableNodesOnly(t *testing.T) {
	for _, ends := range [][2]counts{{{}, {3, 3, 3}}, {{}, {2, 1, 0}}, {{0, 1, 0}, {0, 3, 0}}, {{1, 1, 1}, {1, 2, 2}}, {{2, 2, 2}, {2, 2, 2}}} {
		from, to := ends[0].config(samples()), ends[1].config(samples())
		g := Build(from, to)
		for _, learned := range g.Nodes {
			keepsAll := Equal(Prune(g, learned), g)
			comparable := !slices.ContainsFunc(g.Nodes, func(c api.Config) bool {
				return !config.Contains(c, learned) && !config.Contains(learned, c)
			})
			if keepsAll != comparable || (config.Equal(learned, from) || config.Equal(learned, to)) && !keepsAll {
				t.Errorf("between %v and %v, Prune to %v", ends[0], ends[1], learned)
			}
		}
	}
}

// R1

// malformed returns configurations that are not valid.
func malformed() []api.Config {
	list := samples()
	backwards := slices.Clone(list)
	slices.Reverse(backwards)
	c := remove(1)
	return []api.Config{
		list[1:2], {list[0], list[2]}, {list[2], list[5], list[8]}, {list[0], list[0]}, {list[3], list[0]}, backwards, append(slices.Clone(list), list...),
		{api.Proposal{}}, make(api.Config, 20), {list[0], api.Proposal{}, list[1]}, {of(201, 0, c)}, {of(201, 1, c), of(201, 2, c), of(201, 3, c), of(201, 4, c)},
		{of(200, 1, c)}, {of(204, 1, c)}, {of(math.MinInt, math.MaxInt, c), of(math.MaxInt, math.MinInt, c)}, {of(201, 1)}, {of(201, 1, make([]api.Change, 100)...)},
	}
}

// disagreeing returns configurations with the identifiers of the samples, but other changes.
func disagreeing() []api.Config {
	proposals := randomProposals(rand.New(rand.NewSource(10)))
	return []api.Config{counts{1, 0, 0}.config(proposals), counts{1, 2, 3}.config(proposals), proposals}
}

// malformedGraphs returns graphs that this package does not return.
func malformedGraphs() []Graph {
	_, graphs := different()
	everything := full().graph(samples())
	backwards := full().graph(samples())
	slices.Reverse(backwards.Nodes)
	slices.Reverse(backwards.Edges)
	graphs = append(graphs, Graph{Nodes: backwards.Nodes, Edges: everything.Edges}, Graph{Nodes: everything.Nodes, Edges: backwards.Edges}, backwards,
		Graph{Nodes: malformed()}, Graph{Nodes: slices.Concat(malformed(), everything.Nodes, disagreeing())}, Graph{Nodes: make([]api.Config, 70)}, Graph{Edges: everything.Edges},
	)
	r := rand.New(rand.NewSource(8))
	for range 30 {
		g := Graph{Nodes: slices.Concat(malformed(), disagreeing())[r.Intn(20):]}
		for range r.Intn(30) {
			g.Edges = append(g.Edges, [2]int{r.Intn(8) - 2, r.Intn(8) - 2})
		}
		graphs = append(graphs, g)
	}
	for _, nodes := range [][]api.Config{make([]api.Config, 4), malformed()[:4]} {
		for _, edges := range [][][2]int{
			{{0, 0}, {1, 1}, {2, 2}, {3, 3}}, {{0, 1}, {1, 0}}, {{1, 2}, {0, 1}, {1, 0}, {2, 1}}, {{1, 0}, {0, 1}, {1, 3}}, {{0, 1}, {1, 2}, {2, 3}, {3, 0}}, {{2, 3}, {1, 2}, {0, 1}, {0, 1}},
			{{-1, 0}, {0, -1}, {4, 0}, {0, 4}, {4, 3}}, {{0, math.MinInt}, {math.MinInt, 3}, {0, math.MaxInt}, {math.MaxInt, 3}}, {{math.MaxInt, math.MinInt}, {math.MinInt, math.MaxInt}},
		} {
			graphs = append(graphs, Graph{Nodes: nodes, Edges: edges})
		}
	}
	return graphs
}

// callAll calls all functions.
func callAll(g, h Graph, c, d api.Config) {
	Build(c, d)
	Equal(g, h)
	Contract(g, c)
	Prune(g, c)
	Levels(g)
	for _, from := range []int{0, 1, 3, 60, -1, math.MinInt} {
		for _, to := range []int{3, 0, 1, 63, 4, math.MaxInt} {
			Path(g, from, to)
			Paths(g, from, to)
		}
	}
}

func TestMalformedArguments(t *testing.T) {
	graphs := append(malformedGraphs(), full().graph(samples()), Graph{})
	lists := slices.Concat(malformed(), disagreeing(), []api.Config{nil, samples(), counts{1, 0, 2}.config(samples())})
	for i, g := range graphs {
		for j, c := range lists {
			callAll(g, graphs[j%len(graphs)], c, lists[i%len(lists)])
		}
		for from := -3; from < 70; from++ {
			for to := -3; to < 70; to++ {
				path, number, last := Path(g, from, to), Paths(g, from, to), len(g.Nodes)-1
				if (min(from, to) < 0 || max(from, to) > last) && (path != nil || number != 0) {
					t.Errorf("from %d to %d of %d nodes: Path = %v, Paths = %d", from, to, last+1, path, number)
				}
			}
		}
	}
}

// Ends that are not valid have no interval.
func TestBuildOfMalformedEnds(t *testing.T) {
	for _, c := range malformed() {
		if g := Build(nil, c); !Equal(g, Graph{}) {
			t.Errorf("Build(nil, %v) = %v", c, g)
		}
		if g := Build(c, samples()); !Equal(g, Graph{}) {
			t.Errorf("Build(%v, samples) = %v", c, g)
		}
	}
}

// R2

// withRoom returns a copy of list with room behind it into which an append could write.
func withRoom[E any](list []E) []E {
	out := make([]E, len(list)+20)
	return out[:copy(out, list)]
}

// whole returns list with the elements behind it that an append could reach.
func whole[E any](list []E) []E { return list[:cap(list)] }

// roomy returns a copy of c with room behind each of its lists.
func roomy(c api.Config) api.Config {
	out := withRoom(c)
	for i, p := range out {
		out[i].Changes = withRoom(p.Changes)
	}
	return out
}

// roomyGraph returns a copy of g with room behind each of its lists.
func roomyGraph(g Graph) Graph {
	out := Graph{Nodes: withRoom(g.Nodes), Edges: withRoom(g.Edges)}
	for i, c := range out.Nodes {
		out.Nodes[i] = roomy(c)
	}
	return out
}

// unchanged reports whether an argument that roomy has made of c is as it was, with the room behind each list.
func unchanged(argument, c api.Config) bool {
	if !reflect.DeepEqual(whole(argument), whole(roomy(c))) {
		return false
	}
	for i, p := range argument {
		if !slices.Equal(whole(p.Changes), whole(withRoom(c[i].Changes))) {
			return false
		}
	}
	return true
}

// unchangedGraph reports whether an argument that roomyGraph has made of g is as it was, with the room behind each list.
func unchangedGraph(argument, g Graph) bool {
	return reflect.DeepEqual(whole(argument.Nodes), whole(roomyGraph(g).Nodes)) && slices.Equal(whole(argument.Edges), whole(withRoom(g.Edges))) &&
		slices.EqualFunc(argument.Nodes, g.Nodes, unchanged)
}

// overwrite changes everything that can be reached from c.
func overwrite(c api.Config) {
	for _, p := range c {
		for i := range whole(p.Changes) {
			whole(p.Changes)[i] = api.Change{Kind: -7}
		}
	}
	for i := range whole(c) {
		whole(c)[i] = api.Proposal{Admin: -7}
	}
}

// overwriteGraph changes everything that can be reached from g.
func overwriteGraph(g Graph) {
	for i, c := range whole(g.Nodes) {
		overwrite(c)
		whole(g.Nodes)[i] = api.Config{of(-7, -7)}
	}
	for i := range whole(g.Edges) {
		whole(g.Edges)[i] = [2]int{-7, -7}
	}
}

func TestArgumentsAreKept(t *testing.T) {
	lists := slices.Concat(malformed(), []api.Config{nil, samples(), counts{1, 0, 2}.config(samples())})
	for i, g := range append(malformedGraphs(), full().graph(samples())) {
		first, last := lists[i%len(lists)], lists[len(lists)-1-i%3]
		a, b, c, d := roomyGraph(g), roomyGraph(g), roomy(first), roomy(last)
		callAll(a, b, c, d)
		callAll(b, a, d, c)
		if !unchangedGraph(a, g) || !unchangedGraph(b, g) || !unchanged(c, first) || !unchanged(d, last) {
			t.Fatalf("the arguments have become %v, %v, %v, %v", a, b, c, d)
		}
	}
}

// Each call of a function that returns a graph has a result of its own.
func TestGraphsAreNewMemory(t *testing.T) {
	m, middle := between(counts{}, counts{2, 2, 1}), counts{1, 1, 0}
	for _, x := range []struct {
		name string
		call func(g Graph, c, last api.Config) Graph
		want model
	}{
		{"Build", func(g Graph, c, last api.Config) Graph { return Build(c, last) }, between(middle, counts{2, 2, 1})},
		{"Contract", func(g Graph, c, last api.Config) Graph { return Contract(g, c) }, m.contracted(middle)},
		{"Prune", func(g Graph, c, last api.Config) Graph { return Prune(g, c) }, m.pruned(middle)},
	} {
		g, c, last, want := roomyGraph(m.graph(samples())), roomy(middle.config(samples())), roomy(counts{2, 2, 1}.config(samples())), x.want.graph(samples())
		first, second := x.call(g, c, last), x.call(g, c, last)
		overwriteGraph(g)
		overwrite(c)
		overwrite(last)
		if !same(first, want) || !same(second, want) {
			t.Errorf("%s: the graph has changed with an argument: %v", x.name, first)
		}
		for i := range first.Nodes {
			overwrite(first.Nodes[i])
			if !same(Graph{Nodes: first.Nodes[i+1:]}, Graph{Nodes: want.Nodes[i+1:]}) {
				t.Fatalf("%s: other nodes have changed with node %d: %v", x.name, i, first)
			}
		}
		overwriteGraph(first)
		if !same(second, want) {
			t.Errorf("%s: a graph has changed with another one: %v", x.name, second)
		}
	}
}

// The nodes of a result share no memory with each other, even if those of the argument do.
func TestNodesShareNoMemory(t *testing.T) {
	shared := []api.Change{remove(1)}
	list := api.Config{of(201, 1, shared...), of(201, 2, shared...), of(201, 3, shared...)}
	g := Graph{Nodes: []api.Config{list[:0], list[:1], list[:2], list}, Edges: [][2]int{{0, 1}, {1, 2}, {2, 3}}}
	for _, h := range []Graph{Contract(g, nil), Prune(g, list[:2]), Build(nil, list)} {
		for _, c := range h.Nodes {
			for i, p := range c {
				if p.Changes[0] != remove(1) || p.Admin != 201 {
					t.Fatalf("a proposal has changed with another one: %v", h)
				}
				p.Changes[0] = remove(2)
				c[i].Admin = 7
			}
		}
		if len(h.Nodes) != 4 || shared[0] != remove(1) || list[0].Admin != 201 {
			t.Errorf("the graph has %d nodes, and the argument has become %v", len(h.Nodes), g)
		}
	}
}

func TestListsAreNewMemory(t *testing.T) {
	m := between(counts{}, counts{1, 2, 1})
	g := roomyGraph(m.graph(samples()))
	want, path := m.levels(), []int{0, 1, 3, 5, 11}
	levels, otherLevels := Levels(g), Levels(g)
	first, second := Path(g, 0, len(m)-1), Path(g, 0, len(m)-1)
	overwriteGraph(g)
	if !sameLevels(levels, want) || !slices.Equal(first, path) {
		t.Errorf("the levels %v or the path %v have changed with the argument", levels, first)
	}
	clear(whole(first))
	for i := range levels {
		clear(whole(levels[i]))
		if !sameLevels(levels[i+1:], want[i+1:]) || !sameLevels(otherLevels, want) || !slices.Equal(second, path) {
			t.Fatalf("other lists have changed with level %d: %v, %v, %v", i, levels, otherLevels, second)
		}
	}
}

// R5

func TestNilIsEmpty(t *testing.T) {
	c := api.Config(samples()[:2])
	want := between(counts{}, counts{2, 0, 0}).graph(samples())
	for _, empty := range []api.Config{nil, {}} {
		if g := Build(empty, c); !same(g, want) || !same(Contract(want, empty), want) || !same(Prune(want, empty), want) {
			t.Errorf("from an empty configuration: %v", g)
		}
		if g := Build(empty, empty); len(g.Nodes) != 1 || len(g.Nodes[0]) != 0 || len(g.Edges) != 0 || !same(Build(c, empty), Graph{}) {
			t.Errorf("between empty configurations: %v", g)
		}
		g := Graph{Nodes: []api.Config{empty, samples()[:1], samples()[:2]}, Edges: want.Edges}
		if !Equal(g, want) || !Equal(want, g) || !same(Contract(g, c), Graph{Nodes: []api.Config{c}}) || !same(Prune(g, c), want) || !sameLevels(Levels(g), [][]int{{0}, {1}, {2}}) {
			t.Errorf("of a graph with an empty configuration: %v", g)
		}
	}
	for _, g := range []Graph{{}, {Nodes: []api.Config{}}, {Edges: [][2]int{}}, {Nodes: []api.Config{}, Edges: [][2]int{}}} {
		if !Equal(g, Graph{}) || !Equal(Graph{}, g) || !same(Contract(g, c), Graph{}) || !same(Prune(g, c), Graph{}) || len(Levels(g)) != 0 || len(Path(g, 0, 0)) != 0 || Paths(g, 0, 0) != 0 {
			t.Errorf("the empty graph %v", g)
		}
	}
	one := Graph{Nodes: make([]api.Config, 1), Edges: [][2]int{}}
	if !Equal(one, Build(nil, nil)) || !Equal(Build(nil, nil), one) || !slices.Equal(Path(one, 0, 0), []int{0}) || Paths(one, 0, 0) != 1 {
		t.Error("a graph without edges")
	}
}

// R9

// None of these arguments is valid: they would take too long, or too much memory, if they were copied or compared for
// every node or for every pair of nodes.
func TestLongConfigurations(t *testing.T) {
	const size = 1 << 18
	numbered, repeated, changed := make(api.Config, size), make(api.Config, size), api.Config(samples())
	for i := range size {
		numbered[i], repeated[i] = of(201, 1+i, remove(1)), samples()[0]
	}
	changed[8].Changes = slices.Repeat([]api.Change{remove(2)}, size)
	g := full().graph(samples())
	for i, c := range []api.Config{numbered, repeated, changed, append(samples(), numbered...)} {
		long := Graph{Nodes: slices.Repeat([]api.Config{c}, 64)}
		callAll(g, g, c, c)
		callAll(long, long, samples(), nil)
		for j, h := range []Graph{Build(nil, c), Build(c, samples()), Contract(g, c), Prune(g, c), Contract(long, nil), Prune(long, nil), Prune(long, samples())} {
			if !Equal(h, Graph{}) {
				t.Errorf("configuration %d: graph %d has nodes", i, j)
			}
		}
	}
}

func TestLongGraphs(t *testing.T) {
	const size = 1 << 20
	g := Graph{Nodes: slices.Repeat([]api.Config{samples()}, size)}
	for i := range size - 1 {
		g.Edges = append(g.Edges, [2]int{i, i + 1})
	}
	if path := Path(g, 0, size-1); len(path) != size || Paths(g, 0, size-1) != 1 || Path(g, size-1, 0) != nil {
		t.Errorf("along a line the path has %d nodes", len(path))
	}
	backwards := Graph{Nodes: g.Nodes, Edges: slices.Clone(g.Edges)}
	slices.Reverse(backwards.Edges)
	star := Graph{Nodes: g.Nodes, Edges: slices.Clone(g.Edges)}
	for i := range star.Edges {
		star.Edges[i] = [2]int{0, i}
	}
	for _, h := range []Graph{g, backwards, star} {
		Contract(h, nil)
		Prune(h, samples())
		Path(h, 1, size-1)
		Paths(h, 1, size-1)
		if levels := Levels(h); len(levels) != 1 || len(levels[0]) != size || !Equal(h, h) {
			t.Errorf("the graph has %d levels", len(levels))
		}
	}
}

// FuzzGraphs makes proposals and a graph of a seed, and compares the functions with their definitions.
func FuzzGraphs(f *testing.F) {
	f.Add(int64(1), uint8(0), uint8(63), uint8(27), uint8(0))
	f.Add(int64(2), uint8(21), uint8(62), uint8(41), uint8(21))
	f.Add(int64(3), uint8(42), uint8(21), uint8(22), uint8(11))
	f.Fuzz(func(t *testing.T, seed int64, first, last, learned, base uint8) {
		proposals := randomProposals(rand.New(rand.NewSource(seed)))
		from, to, n, b := everything()[first%64], everything()[last%64], everything()[learned%64], everything()[base%64]
		m := between(from, to)
		if g := Build(from.config(proposals), to.config(proposals)); !same(g, m.graph(proposals)) || !Equal(g, m.graph(proposals)) {
			t.Errorf("Build(%v, %v) = %v", from, to, g)
		}
		checkKept(t, m, n, proposals)
		m = m.pruned(n)
		checkKept(t, m, b, proposals)
		m = m.contracted(b)
		g := m.graph(proposals)
		checkPaths(t, g)
		if got := Levels(g); !sameLevels(got, m.levels()) {
			t.Errorf("Levels(%v) = %v", m, got)
		}
	})
}
