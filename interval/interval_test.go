package interval

import (
	"math"
	"math/rand"
	"reflect"
	"slices"
	"testing"

	"elasticstore/api"
	"elasticstore/config"
	"elasticstore/member"
	"elasticstore/proposal"
)

var (
	majority = api.Rule{Kind: api.RuleMajority}
	weighted = api.Rule{Kind: api.RuleWeighted}
	grid     = api.Rule{Kind: api.RuleGrid, Columns: 3}
	masking  = api.Rule{Kind: api.RuleMasking, Faulty: 2}
)

func join(server, weight int) api.Change {
	return api.Change{Kind: api.ChangeJoin, Server: server, Weight: weight}
}

func remove(server int) api.Change { return api.Change{Kind: api.ChangeRemove, Server: server} }

func weight(server, weight, version int) api.Change {
	return api.Change{Kind: api.ChangeWeight, Server: server, Weight: weight, Version: version}
}

func rule(r api.Rule, version int) api.Change {
	return api.Change{Kind: api.ChangeRule, Version: version, Rule: r}
}

func of(admin, number int, changes ...api.Change) api.Proposal {
	return api.Proposal{Admin: admin, Number: number, Changes: changes}
}

// genesis returns the genesis of a rule and pairs of a server and its weight.
func genesis(r api.Rule, members ...int) api.Genesis { return api.Genesis(view(r, members...)) }

// view returns the view of a rule and pairs of a server and its weight.
func view(r api.Rule, members ...int) api.View {
	v := api.View{Rule: r}
	for m := range slices.Chunk(members, 2) {
		v.Members = append(v.Members, api.Member{Server: m[0], Weight: m[1]})
	}
	return v
}

// geneses returns valid geneses with all kinds of rules.
func geneses() []api.Genesis {
	everyone := api.Genesis{Rule: grid}
	for server := 1; server <= api.MaxServers; server++ {
		everyone.Members = append(everyone.Members, api.Member{Server: server, Weight: 1 + server%9})
	}
	return []api.Genesis{genesis(majority, 1, 1), genesis(weighted, 1, 1, 2, 5, 3, 9), genesis(masking, 2, 1, 3, 9, 5, 2, 7, 1, 11, 4), everyone}
}

// samples returns valid proposals with all identifiers, ascending. They differ in their changes, too.
func samples() []api.Proposal {
	return []api.Proposal{
		of(201, 1, join(4, 2), remove(1)), of(201, 2, rule(grid, 7)), of(201, 3, join(7, 3), weight(2, 4, 2), remove(4)),
		of(202, 1, join(5, 1)), of(202, 2, remove(5), rule(weighted, 9), weight(3, 8, 1)), of(202, 3, remove(12)),
		of(203, 1, weight(2, 9, 1)), of(203, 2, join(8, 1), join(9, 2), join(10, 3), join(11, 4), join(12, 5), remove(2)), of(203, 3, rule(masking, 9)),
	}
}

// randomProposals returns valid proposals with all identifiers, ascending, whose changes often concern the same servers.
func randomProposals(r *rand.Rand) []api.Proposal {
	var out []api.Proposal
	for i := range 9 {
		p := of(201+i/3, 1+i%3)
		for size := 1 + r.Intn(api.MaxChanges); len(p.Changes) < size; {
			server := 1 + r.Intn(4+8*r.Intn(2))
			c := []api.Change{join(server, 1+r.Intn(9)), remove(server), weight(server, 1+r.Intn(9), 1+r.Intn(3)), rule([]api.Rule{majority, weighted, grid, masking}[r.Intn(4)], 1+r.Intn(3))}[r.Intn(4)]
			if q := of(p.Admin, p.Number, append(p.Changes, c)...); proposal.Validate(q) == api.OK {
				p = q
			}
		}
		out = append(out, p)
	}
	return out
}

// counts is the model of a configuration: the number of proposals of 201, 202 and 203.
type counts [3]int

// config returns the configuration with the first proposals of each administrator.
func (n counts) config(proposals []api.Proposal) api.Config {
	return slices.Concat(proposals[:n[0]], proposals[3:3+n[1]], proposals[6:6+n[2]])
}

// contains reports whether the configuration of n contains that of m.
func (n counts) contains(m counts) bool { return n[0] >= m[0] && n[1] >= m[1] && n[2] >= m[2] }

// everything returns the models of all configurations, in ascending lexicographic order.
func everything() []counts {
	var out []counts
	for x := range 4 {
		for y := range 4 {
			for z := range 4 {
				out = append(out, counts{x, y, z})
			}
		}
	}
	return out
}

// between returns the models of the configurations of an interval, by its definition.
func between(from, to counts) []counts {
	var out []counts
	for _, n := range everything() {
		if n.contains(from) && to.contains(n) {
			out = append(out, n)
		}
	}
	return out
}

// configs returns the configurations of an interval, by its definition.
func configs(from, to counts, proposals []api.Proposal) []api.Config {
	var out []api.Config
	for _, n := range between(from, to) {
		out = append(out, n.config(proposals))
	}
	return out
}

// same reports whether two lists hold equal configurations, by reflection. Empty lists are equal to nil.
func same(a, b []api.Config) bool {
	return slices.EqualFunc(a, b, func(c, d api.Config) bool {
		return len(c) == 0 && len(d) == 0 || reflect.DeepEqual(c, d)
	})
}

func sameViews(a, b []api.View) bool {
	return slices.EqualFunc(a, b, func(v, w api.View) bool { return slices.Equal(v.Members, w.Members) && v.Rule == w.Rule })
}

// forEachInterval calls check for the ends of all intervals, empty ones too.
func forEachInterval(check func(from, to counts)) {
	for _, from := range everything() {
		for _, to := range everything() {
			check(from, to)
		}
	}
}

// P9.1

func TestExamples(t *testing.T) {
	for _, x := range []struct {
		name     string
		from, to counts
		want     []counts
	}{
		{"the example of the chapter", counts{}, counts{2, 1, 0}, []counts{{0, 0, 0}, {0, 1, 0}, {1, 0, 0}, {1, 1, 0}, {2, 0, 0}, {2, 1, 0}}},
		{"equal ends", counts{1, 2, 3}, counts{1, 2, 3}, []counts{{1, 2, 3}}},
		{"empty ends", counts{}, counts{}, []counts{{}}},
		{"one administrator", counts{0, 1, 0}, counts{0, 3, 0}, []counts{{0, 1, 0}, {0, 2, 0}, {0, 3, 0}}},
		{"two administrators, the third one fixed", counts{0, 2, 1}, counts{1, 2, 2}, []counts{{0, 2, 1}, {0, 2, 2}, {1, 2, 1}, {1, 2, 2}}},
		{"the last administrator counts first", counts{}, counts{1, 0, 3}, []counts{{0, 0, 0}, {0, 0, 1}, {0, 0, 2}, {0, 0, 3}, {1, 0, 0}, {1, 0, 1}, {1, 0, 2}, {1, 0, 3}}},
		{"reversed ends", counts{1, 0, 0}, counts{}, nil},
		{"ends that are not comparable", counts{1, 0, 0}, counts{0, 3, 3}, nil},
		{"one proposal too many", counts{0, 0, 2}, counts{3, 3, 1}, nil},
	} {
		from, to := x.from.config(samples()), x.to.config(samples())
		var want []api.Config
		for _, n := range x.want {
			want = append(want, n.config(samples()))
		}
		if got := All(from, to); !same(got, want) {
			t.Errorf("%s: All = %v", x.name, got)
		}
		if got := Count(from, to); got != len(want) {
			t.Errorf("%s: Count = %d, want %d", x.name, got, len(want))
		}
	}
}

func TestWithinIsDefinition(t *testing.T) {
	list := map[counts]api.Config{}
	for _, n := range everything() {
		list[n] = n.config(samples())
	}
	forEachInterval(func(from, to counts) {
		for _, n := range everything() {
			if got, want := Within(list[from], list[to], list[n]), n.contains(from) && to.contains(n); got != want {
				t.Fatalf("Within(%v, %v, %v) = %v", from, to, n, got)
			}
		}
	})
}

func TestCountIsDefinition(t *testing.T) {
	forEachInterval(func(from, to counts) {
		if got, want := Count(from.config(samples()), to.config(samples())), len(between(from, to)); got != want {
			t.Errorf("Count(%v, %v) = %d, want %d", from, to, got, want)
		}
	})
}

// An interval has valid configurations only. Ends that are not valid have none between them.
func TestWithinOfMalformedConfigurations(t *testing.T) {
	full := api.Config(samples())
	for _, c := range malformed() {
		if Within(nil, full, c) || Within(nil, c, nil) || Within(c, full, full) {
			t.Errorf("Within of %v", c)
		}
	}
}

// P9.2

func TestAllIsDefinition(t *testing.T) {
	forEachInterval(func(from, to counts) {
		got := All(from.config(samples()), to.config(samples()))
		if !same(got, configs(from, to, samples())) {
			t.Errorf("All(%v, %v) = %v", from, to, got)
		}
		for _, c := range got {
			if config.Validate(c) != api.OK {
				t.Errorf("All(%v, %v) has %v", from, to, c)
			}
		}
	})
}

// P9.3

func TestViews(t *testing.T) {
	g := genesis(majority, 1, 1, 2, 2)
	to := api.Config{of(201, 1, join(3, 3), remove(1)), of(202, 1, rule(grid, 1)), of(202, 2, weight(2, 9, 1)), of(203, 1, remove(3))}
	for _, x := range []struct {
		name     string
		from, to api.Config
		views    []api.View
		span     []int
	}{
		{"no proposals", nil, nil, []api.View{view(majority, 1, 1, 2, 2)}, []int{1, 2}},
		{"a join and a removal", nil, to[:1], []api.View{view(majority, 1, 1, 2, 2), view(majority, 2, 2, 3, 3)}, []int{1, 2, 3}},
		{"only the last one", to[:1], to[:1], []api.View{view(majority, 2, 2, 3, 3)}, []int{2, 3}},
		{"a rule and a weight", nil, to[1:3], []api.View{view(majority, 1, 1, 2, 2), view(grid, 1, 1, 2, 2), view(grid, 1, 1, 2, 9)}, []int{1, 2}},
		{"a removal without effect at first", nil, to[3:], []api.View{view(majority, 1, 1, 2, 2), view(majority, 1, 1, 2, 2)}, []int{1, 2}},
		{"a server that another administrator removes", nil, slices.Concat(to[:1], to[3:]), []api.View{
			view(majority, 1, 1, 2, 2), view(majority, 1, 1, 2, 2), view(majority, 2, 2, 3, 3), view(majority, 2, 2),
		}, []int{1, 2, 3}},
		{"a server that is removed before it joins", to[3:], slices.Concat(to[:1], to[3:]), []api.View{view(majority, 1, 1, 2, 2), view(majority, 2, 2)}, []int{1, 2}},
		{"three administrators", to[:2], to, []api.View{
			view(grid, 2, 2, 3, 3), view(grid, 2, 2), view(grid, 2, 9, 3, 3), view(grid, 2, 9),
		}, []int{2, 3}},
		{"no members", nil, api.Config{of(202, 1, remove(2), remove(1))}, []api.View{view(majority, 1, 1, 2, 2), view(majority)}, []int{1, 2}},
		{"no members at all", api.Config{of(202, 1, remove(2), remove(1))}, api.Config{of(202, 1, remove(2), remove(1))}, []api.View{view(majority)}, nil},
		{"an empty interval", to[:1], to[1:], nil, nil},
		{"reversed ends", to, nil, nil, nil},
	} {
		if got := Views(g, x.from, x.to); !sameViews(got, x.views) {
			t.Errorf("%s: Views = %v, want %v", x.name, got, x.views)
		}
		if got := Span(g, x.from, x.to); !slices.Equal(got, x.span) {
			t.Errorf("%s: Span = %v, want %v", x.name, got, x.span)
		}
	}
}

// spanOf returns the servers of the views, by the definition of Span.
func spanOf(views []api.View) []int {
	var servers []int
	for server := 1; server <= api.MaxServers; server++ {
		if slices.ContainsFunc(views, func(v api.View) bool {
			return slices.ContainsFunc(v.Members, func(m api.Member) bool { return m.Server == server })
		}) {
			servers = append(servers, server)
		}
	}
	return servers
}

// checkViews compares Views and Span of an interval with their definitions.
func checkViews(t *testing.T, g api.Genesis, from, to counts, proposals []api.Proposal) {
	var want []api.View
	for _, c := range configs(from, to, proposals) {
		want = append(want, member.View(member.Summarize(g, c)))
	}
	first, last := from.config(proposals), to.config(proposals)
	if got := Views(g, first, last); !sameViews(got, want) {
		t.Errorf("Views(%v, %v, %v) = %v, want %v", g, first, last, got, want)
	}
	if got := Span(g, first, last); !slices.Equal(got, spanOf(want)) {
		t.Errorf("Span(%v, %v, %v) = %v, want %v", g, first, last, got, spanOf(want))
	}
}

func TestViewsAreDefinition(t *testing.T) {
	r := rand.New(rand.NewSource(9))
	for _, g := range geneses() {
		proposals := randomProposals(r)
		forEachInterval(func(from, to counts) {
			if from == (counts{}) || to == (counts{3, 3, 3}) || r.Intn(8) == 0 {
				checkViews(t, g, from, to, proposals)
			}
		})
	}
}

// P9.4

func TestCountIsProduct(t *testing.T) {
	forEachInterval(func(from, to counts) {
		if !to.contains(from) {
			return
		}
		first, last := from.config(samples()), to.config(samples())
		if got, want := Count(first, last), (1+to[0]-from[0])*(1+to[1]-from[1])*(1+to[2]-from[2]); got != want {
			t.Errorf("Count(%v, %v) = %d, want %d", from, to, got, want)
		}
		all := All(first, last)
		if !config.Equal(all[0], first) || !config.Equal(all[len(all)-1], last) {
			t.Errorf("All(%v, %v) begins with %v and ends with %v", from, to, all[0], all[len(all)-1])
		}
	})
}

func TestUnionAndMeetBelong(t *testing.T) {
	for _, x := range [][2]counts{{{}, {3, 3, 3}}, {{}, {1, 2, 3}}, {{1, 0, 2}, {3, 2, 2}}, {{0, 2, 1}, {2, 2, 3}}, {{1, 1, 1}, {1, 1, 1}}} {
		from, to := x[0].config(samples()), x[1].config(samples())
		for _, a := range All(from, to) {
			for _, b := range All(from, to) {
				if !Within(from, to, config.Union(a, b)) || !Within(from, to, config.Meet(a, b)) {
					t.Fatalf("%v and %v, between %v and %v", a, b, from, to)
				}
			}
		}
	}
}

// R1

// malformed returns configurations that are not valid.
func malformed() []api.Config {
	list := samples()
	backwards := slices.Clone(list)
	slices.Reverse(backwards)
	c := remove(1)
	return []api.Config{
		list[1:2], {list[0], list[2]}, {list[0], list[4]}, list[8:], {list[2], list[5], list[8]}, {list[0], list[0]}, {list[3], list[0]}, {list[0], list[3], list[1]},
		backwards, append(slices.Clone(list), list...), {api.Proposal{}}, make(api.Config, 20), {list[0], api.Proposal{}, list[1]}, {of(201, 0, c)}, {of(201, -1, c)},
		{of(201, 1, c), of(201, 2, c), of(201, 3, c), of(201, 4, c)}, {of(200, 1, c)}, {of(204, 1, c)}, {of(1, 1, c)}, {of(101, 1, c), list[0]},
		{of(math.MinInt, math.MaxInt, c), of(math.MaxInt, math.MinInt, c)}, {of(201, math.MaxInt, c)}, {of(201, 1)}, {of(201, 1, make([]api.Change, 100)...)},
		{of(201, 1, c, c)}, {of(202, 1, join(13, 1))}, {of(203, 1, join(1, 0))}, {list[0], of(201, 1, list[1].Changes...)},
	}
}

// malformedGeneses returns geneses that are not valid.
func malformedGeneses() []api.Genesis {
	many := api.Genesis{Rule: majority, Members: make([]api.Member, 300)}
	for i := range many.Members {
		many.Members[i] = api.Member{Server: i - 20, Weight: i % 12}
	}
	return []api.Genesis{
		{}, genesis(majority), genesis(api.Rule{}, 1, 1), genesis(api.Rule{Kind: 9, Columns: -1, Faulty: math.MinInt}, 1, 1), genesis(majority, 2, 1, 1, 1),
		genesis(weighted, 0, 1, 13, 1), genesis(weighted, math.MinInt, math.MaxInt, math.MaxInt, math.MinInt), genesis(grid, 1, 0), genesis(grid, 1, 10, 7, -1), many,
	}
}

// callAll calls all functions.
func callAll(g api.Genesis, from, to, c api.Config) {
	Count(from, to)
	All(from, to)
	Within(from, to, c)
	Views(g, from, to)
	Span(g, from, to)
}

// disagreeing returns configurations with the identifiers of the samples, but other changes.
func disagreeing() []api.Config {
	proposals := randomProposals(rand.New(rand.NewSource(10)))
	return []api.Config{counts{1, 0, 0}.config(proposals), counts{1, 2, 3}.config(proposals), proposals}
}

func TestMalformedArguments(t *testing.T) {
	lists := slices.Concat(malformed(), disagreeing(), []api.Config{nil, samples(), counts{1, 0, 2}.config(samples())})
	for _, from := range lists {
		for _, to := range lists {
			for _, c := range lists {
				Within(from, to, c)
			}
			for _, g := range append(malformedGeneses(), geneses()...) {
				callAll(g, from, to, nil)
			}
		}
	}
}

// R2

// withRoom returns a copy of list with room behind it into which an append could write.
func withRoom[E any](list []E) []E {
	out := make([]E, len(list)+20)
	return out[:copy(out, list)]
}

// whole returns list with the elements behind it that an append could reach.
func whole[E any](list []E) []E { return list[:cap(list)] }

// roomy returns a copy of c with room behind each of its lists.
func roomy(c api.Config) api.Config {
	out := withRoom(c)
	for i, p := range out {
		out[i].Changes = withRoom(p.Changes)
	}
	return out
}

// unchanged reports whether an argument that roomy has made of c is as it was, with the room behind each list.
func unchanged(argument, c api.Config) bool {
	if !reflect.DeepEqual(whole(argument), whole(roomy(c))) {
		return false
	}
	for i, p := range argument {
		if !slices.Equal(whole(p.Changes), whole(withRoom(c[i].Changes))) {
			return false
		}
	}
	return true
}

// overwrite changes everything that can be reached from c.
func overwrite(c api.Config) {
	for _, p := range c {
		for i := range whole(p.Changes) {
			whole(p.Changes)[i] = api.Change{Kind: -7}
		}
	}
	for i := range whole(c) {
		whole(c)[i] = api.Proposal{Admin: -7}
	}
}

func TestArgumentsAreKept(t *testing.T) {
	lists := slices.Concat(malformed(), []api.Config{nil, samples(), counts{1, 0, 2}.config(samples())})
	for _, g := range append(malformedGeneses(), geneses()...) {
		for _, from := range lists {
			for _, to := range lists[len(lists)-5:] {
				h, a, b, c := api.Genesis{Members: withRoom(g.Members), Rule: g.Rule}, roomy(from), roomy(to), roomy(samples())
				callAll(h, a, b, c)
				if !unchanged(a, from) || !unchanged(b, to) || !unchanged(c, samples()) || !slices.Equal(whole(h.Members), whole(withRoom(g.Members))) {
					t.Fatalf("the arguments have become %v, %v, %v, %v", h, a, b, c)
				}
			}
		}
	}
}

func TestConfigurationsAreNewMemory(t *testing.T) {
	for _, x := range [][2]counts{{{}, {2, 2, 2}}, {{1, 0, 2}, {2, 1, 2}}, {{1, 1, 1}, {1, 1, 1}}} {
		from, to := roomy(x[0].config(samples())), roomy(x[1].config(samples()))
		want := configs(x[0], x[1], samples())
		first, second := All(from, to), All(from, to)
		overwrite(from)
		overwrite(to)
		if !same(first, want) {
			t.Errorf("the configurations have changed with an argument: %v", first)
		}
		for i := range first {
			overwrite(first[i])
			if !same(first[i+1:], want[i+1:]) || !same(second, want) {
				t.Fatalf("other configurations have changed with configuration %d: %v, %v", i, first, second)
			}
		}
	}
}

// The proposals of a result share no memory with each other, even if those of the argument do.
func TestProposalsShareNoMemory(t *testing.T) {
	shared := []api.Change{remove(1)}
	all := All(nil, api.Config{of(201, 1, shared...), of(202, 1, shared...), of(203, 1, shared...)})
	for _, c := range all {
		for _, p := range c {
			if p.Changes[0] != remove(1) {
				t.Fatalf("a proposal has changed with another one: %v", all)
			}
			p.Changes[0] = remove(2)
		}
	}
	if len(all) != 8 || shared[0] != remove(1) {
		t.Errorf("All has %d configurations, and the argument has become %v", len(all), shared)
	}
}

func TestViewsAreNewMemory(t *testing.T) {
	proposals, last := samples(), counts{2, 1, 2}
	var want []api.View
	for _, c := range configs(counts{}, last, proposals) {
		want = append(want, member.View(member.Summarize(geneses()[1], c)))
	}
	g, to := geneses()[1], roomy(last.config(proposals))
	g.Members = withRoom(g.Members)
	first, second := Views(g, nil, to), Views(g, nil, to)
	span, other := Span(g, nil, to), Span(g, nil, to)
	overwrite(to)
	clear(whole(g.Members))
	if !sameViews(first, want) || !slices.Equal(span, spanOf(want)) {
		t.Errorf("the views %v or the span %v have changed with an argument", first, span)
	}
	for i := range first {
		clear(whole(first[i].Members))
		if !sameViews(first[i+1:], want[i+1:]) || !sameViews(second, want) {
			t.Fatalf("other views have changed with view %d: %v, %v", i, first, second)
		}
	}
	clear(whole(span))
	if !slices.Equal(other, spanOf(want)) {
		t.Errorf("a span has changed with another one: %v", other)
	}
}

// R5

func TestNilIsEmpty(t *testing.T) {
	g, c := geneses()[1], api.Config(samples()[:3])
	for _, empty := range []api.Config{nil, {}} {
		if Count(empty, empty) != 1 || !same(All(empty, empty), make([]api.Config, 1)) || len(All(empty, empty)[0]) != 0 {
			t.Errorf("between empty configurations: All = %v", All(empty, empty))
		}
		if Count(empty, c) != 4 || Count(c, empty) != 0 || len(All(c, empty)) != 0 || !same(All(empty, c), configs(counts{}, counts{3, 0, 0}, samples())) {
			t.Errorf("from an empty configuration: All = %v", All(empty, c))
		}
		if !Within(empty, c, empty) || !Within(empty, empty, empty) || Within(c, empty, empty) || Within(c, c, empty) || Within(empty, empty, c) {
			t.Errorf("Within with an empty configuration")
		}
		if got := Views(g, empty, empty); !sameViews(got, []api.View{api.View(g)}) || len(Views(g, c, empty)) != 0 {
			t.Errorf("Views between empty configurations = %v", got)
		}
		if got := Span(g, empty, empty); !slices.Equal(got, []int{1, 2, 3}) || len(Span(g, c, empty)) != 0 {
			t.Errorf("Span between empty configurations = %v", got)
		}
	}
}

// R9

// Each of these arguments would take too long, or too much memory, if it were copied for every configuration. None of
// them is valid: they give nothing.
func TestLongArguments(t *testing.T) {
	const size = 1 << 18
	numbered, repeated, changed := make(api.Config, size), make(api.Config, size), api.Config(samples())
	for i := range size {
		numbered[i], repeated[i] = of(201, 1+i, remove(1)), samples()[0]
	}
	changed[8].Changes = slices.Repeat([]api.Change{remove(2)}, size)
	g, full := geneses()[0], api.Config(samples())
	for i, c := range []api.Config{numbered, repeated, changed, slices.Concat(full, numbered)} {
		for _, ends := range [][2]api.Config{{nil, c}, {c, c}, {c, full}, {full[:3], c}} {
			callAll(g, ends[0], ends[1], c)
			if Count(ends[0], ends[1]) != 0 || Within(nil, full, c) {
				t.Errorf("configuration %d: the interval is not empty", i)
			}
		}
	}
	g.Members = slices.Repeat(g.Members, size)
	if views, span := Views(g, nil, full), Span(g, nil, full); len(views) != 0 || len(span) != 0 {
		t.Errorf("a long genesis has %d views with %d servers", len(views), len(span))
	}
}

// FuzzIntervals makes a genesis and proposals of a seed, and compares the functions with their definitions.
func FuzzIntervals(f *testing.F) {
	f.Add(int64(1), uint8(0), uint8(63), uint8(27))
	f.Add(int64(2), uint8(21), uint8(42), uint8(41))
	f.Add(int64(3), uint8(42), uint8(21), uint8(22))
	f.Fuzz(func(t *testing.T, seed int64, first, last, other uint8) {
		r := rand.New(rand.NewSource(seed))
		g, proposals := geneses()[r.Intn(len(geneses()))], randomProposals(r)
		from, to, n := everything()[first%64], everything()[last%64], everything()[other%64]
		checkViews(t, g, from, to, proposals)
		a, b := from.config(proposals), to.config(proposals)
		want := configs(from, to, proposals)
		if got := All(a, b); !same(got, want) || Count(a, b) != len(want) {
			t.Errorf("All(%v, %v) = %v, Count = %d", a, b, got, Count(a, b))
		}
		if got := Within(a, b, n.config(proposals)); got != (n.contains(from) && to.contains(n)) {
			t.Errorf("Within(%v, %v, %v) = %v", a, b, n, got)
		}
	})
}
