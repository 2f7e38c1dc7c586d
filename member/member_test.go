package member

import (
	"bytes"
	"encoding/binary"
	"maps"
	"math"
	"math/rand"
	"reflect"
	"slices"
	"testing"

	"elasticstore/api"
	"elasticstore/config"
	"elasticstore/proposal"
	"elasticstore/quorum"
	"elasticstore/wire"
)

var (
	majority = api.Rule{Kind: api.RuleMajority}
	weighted = api.Rule{Kind: api.RuleWeighted}
	grid     = api.Rule{Kind: api.RuleGrid, Columns: 3}
	masking  = api.Rule{Kind: api.RuleMasking, Faulty: 2}
)

func join(server, weight int) api.Change {
	return api.Change{Kind: api.ChangeJoin, Server: server, Weight: weight}
}

func remove(server int) api.Change { return api.Change{Kind: api.ChangeRemove, Server: server} }

func weight(server, weight, version int) api.Change {
	return api.Change{Kind: api.ChangeWeight, Server: server, Weight: weight, Version: version}
}

func rule(r api.Rule, version int) api.Change {
	return api.Change{Kind: api.ChangeRule, Version: version, Rule: r}
}

func of(admin, number int, changes ...api.Change) api.Proposal {
	return api.Proposal{Admin: admin, Number: number, Changes: changes}
}

// entry returns the weight of a server with its origin.
func entry(server, weight, version, admin, number int) api.WeightEntry {
	return api.WeightEntry{Server: server, Weight: weight, Version: version, Admin: admin, Number: number}
}

// genesis returns the genesis of a rule and pairs of a server and its weight.
func genesis(r api.Rule, members ...int) api.Genesis { return api.Genesis(view(r, members...)) }

// view returns the view of a rule and pairs of a server and its weight.
func view(r api.Rule, members ...int) api.View {
	v := api.View{Rule: r}
	for m := range slices.Chunk(members, 2) {
		v.Members = append(v.Members, api.Member{Server: m[0], Weight: m[1]})
	}
	return v
}

// all returns a genesis of all servers, with weights 1 to 9.
func all(r api.Rule) api.Genesis {
	g := api.Genesis{Rule: r}
	for server := 1; server <= api.MaxServers; server++ {
		g.Members = append(g.Members, api.Member{Server: server, Weight: 1 + server%9})
	}
	return g
}

// geneses returns valid geneses with all kinds of rules.
func geneses() []api.Genesis {
	return []api.Genesis{
		genesis(majority, 1, 1), genesis(weighted, 1, 1, 2, 5, 3, 9), genesis(grid, 2, 1, 3, 9, 5, 2, 7, 1, 11, 4, 12, 1), genesis(masking, 12, 9),
		all(majority), all(grid), all(masking), all(api.Rule{Kind: api.RuleGrid, Columns: 12}), all(api.Rule{Kind: api.RuleMasking}),
	}
}

// malformedGeneses returns geneses that are not valid.
func malformedGeneses() []api.Genesis {
	many := api.Genesis{Rule: majority, Members: make([]api.Member, 300)}
	for i := range many.Members {
		many.Members[i] = api.Member{Server: i - 20, Weight: i % 12}
	}
	return []api.Genesis{
		{}, genesis(majority), genesis(api.Rule{}, 1, 1), genesis(api.Rule{Kind: 9, Columns: -1, Faulty: math.MinInt}, 1, 1), genesis(majority, 2, 1, 1, 1), genesis(majority, 1, 1, 1, 2),
		genesis(weighted, 0, 1), genesis(weighted, 13, 1), genesis(weighted, math.MinInt, math.MaxInt, math.MaxInt, math.MinInt), genesis(grid, 1, 0), genesis(grid, 1, 10, 7, -1), many,
	}
}

// changes returns all valid changes of some weights, versions and rules.
func changes() []api.Change {
	var out []api.Change
	for server := 1; server <= api.MaxServers; server++ {
		out = append(out, join(server, 1+server%9), join(server, 1+server%4), remove(server), weight(server, 1, 1), weight(server, 9, 2), weight(server, 5, 1000))
	}
	for _, r := range []api.Rule{majority, weighted, grid, masking} {
		out = append(out, rule(r, 1), rule(r, 2), rule(r, 1000))
	}
	return out
}

// randomProposal returns a valid proposal with changes of few servers, so that they often meet.
func randomProposal(r *rand.Rand, admin, number int) api.Proposal {
	p := of(admin, number)
	for size := 1 + r.Intn(api.MaxChanges); len(p.Changes) < size; {
		c := changes()[r.Intn(len(changes()))]
		if c.Server > 5 && r.Intn(3) > 0 {
			c.Server -= 5
		}
		p.Changes = append(p.Changes, c)
		if proposal.Validate(p) != api.OK {
			p.Changes = p.Changes[:len(p.Changes)-1]
		}
	}
	return p
}

// randomProposals returns valid proposals with all identifiers, ascending.
func randomProposals(r *rand.Rand) []api.Proposal {
	var out []api.Proposal
	for admin := api.FirstAdmin; admin < api.FirstAdmin+api.MaxAdmins; admin++ {
		for number := 1; number <= api.MaxProposals; number++ {
			out = append(out, randomProposal(r, admin, number))
		}
	}
	return out
}

// configs returns all configurations of the proposals, which have all identifiers.
func configs(proposals []api.Proposal) []api.Config {
	var out []api.Config
	for x := range 4 {
		for y := range 4 {
			for z := range 4 {
				out = append(out, slices.Concat(proposals[:x], proposals[3:3+y], proposals[6:6+z]))
			}
		}
	}
	return out
}

// malformedProposals returns proposals that are not valid.
func malformedProposals() []api.Proposal {
	many := of(201, 1)
	for i := range 300 {
		many.Changes = append(many.Changes, api.Change{Kind: i % 6, Server: (i * 77) % 50, Weight: i, Version: i % 7, Rule: api.Rule{Kind: i % 3}})
	}
	extreme := of(math.MinInt, math.MaxInt)
	for kind := range 6 {
		extreme.Changes = append(extreme.Changes, api.Change{Kind: kind, Server: math.MinInt, Weight: math.MaxInt, Version: math.MinInt, Rule: api.Rule{Kind: -1}},
			api.Change{Kind: kind, Server: math.MaxInt, Weight: math.MinInt, Version: math.MaxInt})
	}
	return []api.Proposal{{}, many, extreme, of(202, 1), of(201, 1, join(3, 1), join(3, 2), join(1, 1)), of(201, 1, weight(3, 1, 5), weight(3, 2, 5)), of(0, 0, rule(api.Rule{}, 4))}
}

// malformedSummaries returns summaries that are not valid.
func malformedSummaries() []api.Summary {
	var many api.Summary
	for i := range 300 {
		many.Joined = append(many.Joined, (i*77)%50)
		many.Removed = append(many.Removed, 50-i)
		many.Weights = append(many.Weights, entry(i/2, i, -i, i%3, i))
	}
	return []api.Summary{
		many, {Joined: []int{3, 2, 1}, Removed: []int{2, 2}}, {Joined: []int{1, 1, 1}, Weights: []api.WeightEntry{entry(1, 1, 0, 0, 0), entry(1, 2, 0, 0, 0)}},
		{Joined: []int{math.MinInt, math.MaxInt}, Removed: []int{math.MaxInt, math.MinInt}, Weights: []api.WeightEntry{entry(math.MinInt, math.MaxInt, math.MinInt, math.MaxInt, math.MinInt)}},
		{Version: 5, Admin: -1}, {Rule: api.Rule{Kind: 17}}, {Rule: majority, Version: math.MinInt}, {Joined: make([]int, 50), Removed: make([]int, 50), Weights: make([]api.WeightEntry, 50)},
	}
}

// normal returns s with nil instead of empty lists.
func normal(s api.Summary) api.Summary {
	if len(s.Joined) == 0 {
		s.Joined = nil
	}
	if len(s.Removed) == 0 {
		s.Removed = nil
	}
	if len(s.Weights) == 0 {
		s.Weights = nil
	}
	return s
}

// same reports whether a and b are equal, by reflection instead of Equal.
func same(a, b api.Summary) bool { return reflect.DeepEqual(normal(a), normal(b)) }

func sameView(v, w api.View) bool { return slices.Equal(v.Members, w.Members) && v.Rule == w.Rule }

func sameGenesis(g, h api.Genesis) bool { return sameView(api.View(g), api.View(h)) }

// P7.1

func TestValidateGenesis(t *testing.T) {
	for _, g := range geneses() {
		if e := ValidateGenesis(g); e != api.OK {
			t.Errorf("ValidateGenesis(%v) = %v", g, e)
		}
	}
	for _, x := range []struct {
		name string
		g    api.Genesis
		e    api.Errno
	}{
		{"no members", genesis(majority), api.ErrInvalid},
		{"the zero value", api.Genesis{}, api.ErrKind},
		{"no rule", genesis(api.Rule{}, 1, 1), api.ErrKind},
		{"rule 5", genesis(api.Rule{Kind: 5}, 1, 1), api.ErrKind},
		{"a grid without columns", genesis(api.Rule{Kind: api.RuleGrid}, 1, 1), api.ErrRange},
		{"a majority with faulty", genesis(api.Rule{Kind: api.RuleMajority, Faulty: 1}, 1, 1), api.ErrRange},
		{"server 0", genesis(majority, 0, 1), api.ErrRange},
		{"server 13", genesis(majority, 1, 1, 13, 1), api.ErrRange},
		{"weight 0", genesis(majority, 1, 0), api.ErrRange},
		{"weight 10", genesis(majority, 1, 10), api.ErrRange},
		{"a server twice", genesis(majority, 1, 1, 1, 1), api.ErrOrder},
		{"servers descending", genesis(majority, 2, 1, 1, 1), api.ErrOrder},

		{"a grid without columns before no members", genesis(api.Rule{Kind: api.RuleGrid}), api.ErrRange},
		{"the rule before the members", genesis(api.Rule{}, 13, 1), api.ErrKind},
		{"order before a later range", genesis(majority, 2, 1, 1, 1, 13, 1), api.ErrOrder},
		{"range before a later order", genesis(majority, 2, 10, 1, 1), api.ErrRange},
	} {
		if e := ValidateGenesis(x.g); e != x.e {
			t.Errorf("%s: ValidateGenesis(%v) = %v, want %v", x.name, x.g, e, x.e)
		}
	}
}

// genesisError is the list of conditions of P7.1.
func genesisError(g api.Genesis) api.Errno {
	if e := quorum.ValidateView(api.View{Members: g.Members, Rule: g.Rule}); e != api.OK {
		return e
	}
	if len(g.Members) == 0 {
		return api.ErrInvalid
	}
	return api.OK
}

func TestValidateGenesisReturnsFirstError(t *testing.T) {
	list := append(geneses(), malformedGeneses()...)
	for _, members := range list {
		for _, rules := range list {
			g := api.Genesis{Members: members.Members, Rule: rules.Rule}
			if e := ValidateGenesis(g); e != genesisError(g) {
				t.Errorf("ValidateGenesis(%v) = %v, want %v", g, e, genesisError(g))
			}
		}
	}
}

// P7.2

func TestValidate(t *testing.T) {
	w := func(entries ...api.WeightEntry) api.Summary { return api.Summary{Weights: entries} }
	r := func(r api.Rule, version, admin, number int) api.Summary {
		return api.Summary{Rule: r, Version: version, Admin: admin, Number: number}
	}
	bad, good := entry(13, 1, 0, 0, 0), entry(2, 1, 0, 0, 0)
	twelve := []int{1, 2, 3, 4, 5, 6, 7, 8, 9, 10, 11, 12}
	for _, x := range []struct {
		name string
		s    api.Summary
		e    api.Errno
	}{
		{"the zero value", api.Summary{}, api.OK},
		{"empty lists", api.Summary{Joined: []int{}, Removed: []int{}, Weights: []api.WeightEntry{}}, api.OK},
		{"all servers", api.Summary{Joined: twelve, Removed: twelve}, api.OK},
		{"the bounds of a weight", w(entry(1, 1, 0, 0, 0), entry(12, 9, 1000, 203, 3)), api.OK},
		{"origins without an upper bound", w(entry(3, 3, math.MaxInt, math.MaxInt, math.MaxInt)), api.OK},
		{"a rule of the genesis", r(grid, 0, 0, 0), api.OK},
		{"a rule of a proposal", r(masking, 7, 202, 3), api.OK},
		{"a rule with an origin without an upper bound", r(majority, math.MaxInt, math.MaxInt, math.MaxInt), api.OK},

		{"joined 0", api.Summary{Joined: []int{0}}, api.ErrRange},
		{"joined 13", api.Summary{Joined: []int{1, 13}}, api.ErrRange},
		{"joined -1", api.Summary{Joined: []int{-1, 1}}, api.ErrRange},
		{"removed 0", api.Summary{Removed: []int{0}}, api.ErrRange},
		{"removed 13", api.Summary{Removed: []int{1, 13}}, api.ErrRange},
		{"joined twice", api.Summary{Joined: []int{1, 2, 2}}, api.ErrOrder},
		{"joined descending", api.Summary{Joined: []int{1, 3, 2}}, api.ErrOrder},
		{"removed twice", api.Summary{Removed: []int{2, 2, 3}}, api.ErrOrder},
		{"removed descending", api.Summary{Removed: []int{12, 1}}, api.ErrOrder},

		{"server 0", w(entry(0, 1, 0, 0, 0)), api.ErrRange},
		{"server 13", w(bad), api.ErrRange},
		{"weight 0", w(entry(1, 0, 0, 0, 0)), api.ErrRange},
		{"weight 10", w(entry(1, 10, 0, 0, 0)), api.ErrRange},
		{"version -1", w(entry(1, 1, -1, 201, 1)), api.ErrRange},
		{"admin -1", w(entry(1, 1, 1, -1, 1)), api.ErrRange},
		{"number -1", w(entry(1, 1, 1, 201, -1)), api.ErrRange},
		{"a server twice", w(good, good), api.ErrOrder},
		{"a server twice with other weights", w(good, entry(2, 2, 1, 201, 1)), api.ErrOrder},
		{"servers descending", w(good, entry(1, 1, 0, 0, 0)), api.ErrOrder},

		{"rule 5", r(api.Rule{Kind: 5}, 0, 0, 0), api.ErrKind},
		{"rule -1", r(api.Rule{Kind: -1}, 0, 0, 0), api.ErrKind},
		{"columns without a kind", r(api.Rule{Columns: 1}, 0, 0, 0), api.ErrKind},
		{"faulty without a kind", r(api.Rule{Faulty: 1}, 0, 0, 0), api.ErrKind},
		{"a grid without columns", r(api.Rule{Kind: api.RuleGrid}, 1, 1, 1), api.ErrRange},
		{"a rule of version -1", r(majority, -1, 201, 1), api.ErrRange},
		{"a rule of admin -1", r(majority, 1, -1, 1), api.ErrRange},
		{"a rule of number -1", r(majority, 1, 201, -1), api.ErrRange},
		{"version 1 without a rule", r(api.Rule{}, 1, 0, 0), api.ErrRange},
		{"admin 1 without a rule", r(api.Rule{}, 0, 1, 0), api.ErrRange},
		{"number 1 without a rule", r(api.Rule{}, 0, 0, 1), api.ErrRange},
		{"version -1 without a rule", r(api.Rule{}, -1, 0, 0), api.ErrRange},

		{"a range in joined before order in joined", api.Summary{Joined: []int{2, 1, 13}}, api.ErrRange},
		{"a range in removed before order in joined", api.Summary{Joined: []int{2, 1}, Removed: []int{1, 13}}, api.ErrRange},
		{"order in joined before weights", api.Summary{Joined: []int{2, 1}, Weights: w(bad).Weights}, api.ErrOrder},
		{"order in removed before weights", api.Summary{Removed: []int{2, 1}, Weights: w(bad).Weights}, api.ErrOrder},
		{"order in weights before a later range", w(good, good, bad), api.ErrOrder},
		{"range in weights before a later order", w(good, bad, good), api.ErrRange},
		{"range before order of the same entry", w(good, entry(1, 10, 0, 0, 0)), api.ErrRange},
		{"weights before rule", api.Summary{Weights: w(good, good).Weights, Rule: api.Rule{Kind: 5}}, api.ErrOrder},
		{"rule before version", r(api.Rule{Kind: 5}, -1, -1, -1), api.ErrKind},
	} {
		if e := Validate(x.s); e != x.e {
			t.Errorf("%s: Validate(%v) = %v, want %v", x.name, x.s, e, x.e)
		}
	}
}

// summaryError is the list of conditions of P7.2.
func summaryError(s api.Summary) api.Errno {
	for _, n := range slices.Concat(s.Joined, s.Removed) {
		if n < 1 || n > 12 {
			return api.ErrRange
		}
	}
	for _, list := range [][]int{s.Joined, s.Removed} {
		for i := range list {
			if i > 0 && list[i-1] >= list[i] {
				return api.ErrOrder
			}
		}
	}
	for i, w := range s.Weights {
		if w.Server < 1 || w.Server > 12 || w.Weight < 1 || w.Weight > 9 || w.Version < 0 || w.Admin < 0 || w.Number < 0 {
			return api.ErrRange
		}
		if i > 0 && s.Weights[i-1].Server >= w.Server {
			return api.ErrOrder
		}
	}
	zero := s.Rule.Kind == 0 && s.Rule.Columns == 0 && s.Rule.Faulty == 0
	if e := quorum.ValidateRule(s.Rule); !zero && e != api.OK {
		return e
	}
	if s.Version < 0 || s.Admin < 0 || s.Number < 0 || zero && (s.Version != 0 || s.Admin != 0 || s.Number != 0) {
		return api.ErrRange
	}
	return api.OK
}

func TestValidateReturnsFirstError(t *testing.T) {
	lists := [][]int{nil, {1}, {12}, {1, 5, 12}, {0}, {13}, {2, 1}, {3, 3}, {1, 2, 14}, {1, 13, 2}, {math.MinInt, math.MaxInt}}
	weights := [][]api.WeightEntry{
		nil, {entry(3, 9, 1, 201, 1)}, {entry(1, 1, 0, 0, 0), entry(12, 9, 1000, 203, 3)}, {entry(2, 1, 0, 0, 0), entry(2, 1, 0, 0, 0), entry(0, 0, 0, 0, 0)},
		{entry(2, 10, 0, 0, 0), entry(1, 1, 0, 0, 0)}, {entry(12, 1, 0, 0, -1)}, {entry(13, 1, 0, 0, 0)}, {entry(1, math.MinInt, 0, 0, 0)}, {entry(1, 1, math.MinInt, 0, 0)}, {entry(5, 5, 0, -1, 5)},
	}
	rules := []api.Rule{{}, majority, grid, masking, {Kind: 5}, {Columns: 2}, {Faulty: -1}, {Kind: api.RuleGrid, Columns: 13}, {Kind: api.RuleWeighted, Faulty: 1}}
	origins := [][3]int{{0, 0, 0}, {5, 201, 1}, {-1, 201, 1}, {5, -1, 1}, {5, 201, -1}, {1, 0, 0}, {0, 1, 0}, {0, 0, 1}, {math.MinInt, 0, 0}, {0, math.MaxInt, math.MinInt}}
	for _, joined := range lists {
		for _, removed := range lists {
			for _, entries := range weights {
				for _, r := range rules {
					for _, o := range origins {
						s := api.Summary{Joined: joined, Removed: removed, Weights: entries, Rule: r, Version: o[0], Admin: o[1], Number: o[2]}
						if e := Validate(s); e != summaryError(s) {
							t.Errorf("Validate(%v) = %v, want %v", s, e, summaryError(s))
						}
					}
				}
			}
		}
	}
}

// full returns a summary in which no field is zero.
func full() api.Summary {
	return api.Summary{
		Joined: []int{1, 2, 5}, Removed: []int{3, 5, 9}, Weights: []api.WeightEntry{entry(2, 3, 4, 202, 2), entry(7, 1, 6, 201, 1)},
		Rule: grid, Version: 5, Admin: 203, Number: 1,
	}
}

func TestEqualComparesAllFields(t *testing.T) {
	s, other := full(), full()
	fields := []*int{&other.Rule.Kind, &other.Rule.Columns, &other.Rule.Faulty, &other.Version, &other.Admin, &other.Number}
	for i := range other.Joined {
		fields = append(fields, &other.Joined[i], &other.Removed[i])
	}
	for i := range other.Weights {
		w := &other.Weights[i]
		fields = append(fields, &w.Server, &w.Weight, &w.Version, &w.Admin, &w.Number)
	}
	for i, field := range fields {
		if !Equal(s, other) || !Equal(other, s) {
			t.Fatalf("%v is not equal to %v", s, other)
		}
		*field ^= 1
		if Equal(s, other) || Equal(other, s) {
			t.Errorf("%v is equal to %v, which differs in number %d", s, other, i)
		}
		*field ^= 1
	}
}

func TestEqualComparesLists(t *testing.T) {
	s := full()
	for name, change := range map[string]func(*api.Summary){
		"joined without the last":       func(s *api.Summary) { s.Joined = s.Joined[:2] },
		"joined without the first":      func(s *api.Summary) { s.Joined = s.Joined[1:] },
		"joined with one more":          func(s *api.Summary) { s.Joined = append(s.Joined, 12) },
		"joined in another order":       func(s *api.Summary) { slices.Reverse(s.Joined) },
		"no joined":                     func(s *api.Summary) { s.Joined = nil },
		"removed without the last":      func(s *api.Summary) { s.Removed = s.Removed[:2] },
		"removed with one more":         func(s *api.Summary) { s.Removed = append(s.Removed, 12) },
		"no removed":                    func(s *api.Summary) { s.Removed = nil },
		"joined and removed exchanged":  func(s *api.Summary) { s.Joined, s.Removed = s.Removed, s.Joined },
		"weights without the last":      func(s *api.Summary) { s.Weights = s.Weights[:1] },
		"weights with one more":         func(s *api.Summary) { s.Weights = append(s.Weights, entry(8, 1, 0, 0, 0)) },
		"weights in another order":      func(s *api.Summary) { slices.Reverse(s.Weights) },
		"no weights":                    func(s *api.Summary) { s.Weights = nil },
		"the zero value":                func(s *api.Summary) { *s = api.Summary{} },
		"the rule without its origin":   func(s *api.Summary) { s.Version, s.Admin, s.Number = 0, 0, 0 },
		"the origin without its rule":   func(s *api.Summary) { s.Rule = api.Rule{} },
		"version and number exchanged":  func(s *api.Summary) { s.Version, s.Number = s.Number, s.Version },
		"a zero value behind the lists": func(s *api.Summary) { s.Joined = append(s.Joined, 0) },
	} {
		other := full()
		change(&other)
		if Equal(s, other) || Equal(other, s) || !Equal(other, other) {
			t.Errorf("%s: Equal(%v, %v)", name, s, other)
		}
	}
}

// P7.3

func TestInitial(t *testing.T) {
	want := api.Summary{Joined: []int{2, 3, 11}, Weights: []api.WeightEntry{entry(2, 9, 0, 0, 0), entry(3, 1, 0, 0, 0), entry(11, 4, 0, 0, 0)}, Rule: grid}
	if got := Initial(genesis(grid, 2, 9, 3, 1, 11, 4)); !same(got, want) {
		t.Errorf("Initial = %v, want %v", got, want)
	}
	for _, g := range geneses() {
		s := Initial(g)
		if Validate(s) != api.OK || len(s.Joined) != len(g.Members) || len(s.Weights) != len(g.Members) || len(s.Removed) != 0 || s.Rule != g.Rule || s.Version != 0 || s.Admin != 0 || s.Number != 0 {
			t.Errorf("Initial(%v) = %v", g, s)
		}
		for i, m := range g.Members {
			if s.Joined[i] != m.Server || s.Weights[i] != entry(m.Server, m.Weight, 0, 0, 0) {
				t.Errorf("Initial(%v) = %v", g, s)
			}
		}
	}
}

// P7.4

func TestOf(t *testing.T) {
	for _, x := range []struct {
		name string
		p    api.Proposal
		want api.Summary
	}{
		{"a join", of(201, 1, join(4, 2)), api.Summary{Joined: []int{4}, Weights: []api.WeightEntry{entry(4, 2, 0, 201, 1)}}},
		{"a removal", of(201, 1, remove(4)), api.Summary{Removed: []int{4}}},
		{"a weight", of(203, 2, weight(4, 9, 7)), api.Summary{Weights: []api.WeightEntry{entry(4, 9, 7, 203, 2)}}},
		{"a rule", of(202, 3, rule(grid, 1000)), api.Summary{Rule: grid, Version: 1000, Admin: 202, Number: 3}},
		{"a join before a weight", of(201, 1, join(4, 9), weight(4, 2, 1)), api.Summary{Joined: []int{4}, Weights: []api.WeightEntry{entry(4, 2, 1, 201, 1)}}},
		{"a weight before a join", of(201, 1, weight(4, 2, 1), join(4, 9)), api.Summary{Joined: []int{4}, Weights: []api.WeightEntry{entry(4, 2, 1, 201, 1)}}},
		{"a join and a removal", of(201, 1, join(4, 2), remove(4)), api.Summary{Joined: []int{4}, Removed: []int{4}, Weights: []api.WeightEntry{entry(4, 2, 0, 201, 1)}}},
		{"servers descending", of(202, 1, join(9, 1), join(3, 2), remove(8), remove(2), weight(7, 3, 5), weight(1, 4, 6)), api.Summary{
			Joined: []int{3, 9}, Removed: []int{2, 8}, Weights: []api.WeightEntry{entry(1, 4, 6, 202, 1), entry(3, 2, 0, 202, 1), entry(7, 3, 5, 202, 1), entry(9, 1, 0, 202, 1)}}},
		{"joins and weights of two servers", of(203, 3, join(12, 1), weight(1, 4, 6), weight(12, 5, 2), join(1, 2), rule(majority, 1)), api.Summary{
			Joined: []int{1, 12}, Weights: []api.WeightEntry{entry(1, 4, 6, 203, 3), entry(12, 5, 2, 203, 3)}, Rule: majority, Version: 1, Admin: 203, Number: 3}},
	} {
		if got := Of(x.p); !same(got, x.want) || Validate(got) != api.OK {
			t.Errorf("%s: Of(%v) = %v, want %v", x.name, x.p, got, x.want)
		}
	}
}

// servers returns the servers of the changes of a kind, ascending.
func servers(p api.Proposal, kind int) []int {
	var out []int
	for _, c := range p.Changes {
		if c.Kind == kind {
			out = append(out, c.Server)
		}
	}
	slices.Sort(out)
	return out
}

// summaryOf is P7.4: what Of returns for p.
func summaryOf(p api.Proposal) api.Summary {
	s := api.Summary{Joined: servers(p, api.ChangeJoin), Removed: servers(p, api.ChangeRemove)}
	for server := 1; server <= api.MaxServers; server++ {
		find := func(kind int) int {
			return slices.IndexFunc(p.Changes, func(c api.Change) bool { return c.Kind == kind && c.Server == server })
		}
		if i := find(api.ChangeWeight); i >= 0 {
			s.Weights = append(s.Weights, entry(server, p.Changes[i].Weight, p.Changes[i].Version, p.Admin, p.Number))
		} else if i := find(api.ChangeJoin); i >= 0 {
			s.Weights = append(s.Weights, entry(server, p.Changes[i].Weight, 0, p.Admin, p.Number))
		}
	}
	for _, c := range p.Changes {
		if c.Kind == api.ChangeRule {
			s.Rule, s.Version, s.Admin, s.Number = c.Rule, c.Version, p.Admin, p.Number
		}
	}
	return s
}

func TestOfIsDefinition(t *testing.T) {
	r := rand.New(rand.NewSource(74))
	for range 200 {
		for _, p := range randomProposals(r) {
			got := Of(p)
			if want := summaryOf(p); !same(got, want) || Validate(got) != api.OK {
				t.Fatalf("Of(%v) = %v, want %v", p, got, want)
			}
			r.Shuffle(len(p.Changes), func(i, j int) { p.Changes[i], p.Changes[j] = p.Changes[j], p.Changes[i] })
			if !same(Of(p), got) {
				t.Fatalf("Of(%v) = %v, but %v for another order of the changes", p, Of(p), got)
			}
		}
	}
}

// P7.5

// Each pair of origins is ascending: the second one wins, whatever the others are.
var ascendingOrigins = [][2][3]int{
	{{0, 0, 0}, {0, 0, 1}}, {{0, 0, 0}, {0, 201, 1}}, {{0, 203, 3}, {1, 201, 1}}, {{1, 201, 3}, {1, 202, 1}}, {{1, 201, 1}, {1, 201, 2}}, {{999, 203, 3}, {1000, 201, 1}},
	{{9, 201, 1}, {10, 201, 1}}, {{0, 0, math.MaxInt}, {0, 1, 0}}, {{0, math.MaxInt, math.MaxInt}, {1, 0, 0}},
}

func TestJoinTakesLaterWeight(t *testing.T) {
	for _, o := range ascendingOrigins {
		low, high := entry(5, 9, o[0][0], o[0][1], o[0][2]), entry(5, 1, o[1][0], o[1][1], o[1][2])
		a, b := api.Summary{Weights: []api.WeightEntry{low}}, api.Summary{Weights: []api.WeightEntry{high}}
		if got := Join(a, b); !same(got, b) {
			t.Errorf("Join(%v, %v) = %v", a, b, got)
		}
		if got := Join(b, a); !same(got, b) {
			t.Errorf("Join(%v, %v) = %v", b, a, got)
		}
		other := api.Summary{Weights: []api.WeightEntry{entry(5, 2, o[0][0], o[0][1], o[0][2])}}
		if !same(Join(a, other), a) || !same(Join(other, a), other) {
			t.Errorf("Join of the weights 9 and 2 from %v = %v and %v", o[0], Join(a, other), Join(other, a))
		}
	}
}

func TestJoinTakesLaterRule(t *testing.T) {
	from := func(r api.Rule, o [3]int) api.Summary {
		return api.Summary{Rule: r, Version: o[0], Admin: o[1], Number: o[2]}
	}
	for _, o := range ascendingOrigins {
		a, b, other, none := from(grid, o[0]), from(majority, o[1]), from(weighted, o[0]), api.Summary{}
		for _, x := range [][3]api.Summary{{a, b, b}, {b, a, b}, {a, other, a}, {other, a, other}, {a, none, a}, {none, a, a}, {b, none, b}, {none, b, b}, {a, a, a}, {none, none, none}} {
			if got := Join(x[0], x[1]); !same(got, x[2]) {
				t.Errorf("Join(%v, %v) = %v, want %v", x[0], x[1], got, x[2])
			}
		}
	}
}

func TestJoinExample(t *testing.T) {
	a := api.Summary{Joined: []int{1, 3, 5}, Removed: []int{2}, Weights: []api.WeightEntry{entry(1, 1, 0, 0, 0), entry(3, 2, 4, 201, 1), entry(5, 3, 0, 201, 2)}, Rule: grid, Version: 3, Admin: 201, Number: 1}
	b := api.Summary{Joined: []int{2, 3, 12}, Removed: []int{1, 2, 9}, Weights: []api.WeightEntry{entry(3, 7, 3, 202, 1), entry(4, 8, 1, 202, 1), entry(5, 9, 1, 202, 1)}, Rule: majority, Version: 2, Admin: 202, Number: 1}
	want := api.Summary{Joined: []int{1, 2, 3, 5, 12}, Removed: []int{1, 2, 9}, Weights: []api.WeightEntry{entry(1, 1, 0, 0, 0), entry(3, 2, 4, 201, 1), entry(4, 8, 1, 202, 1), entry(5, 9, 1, 202, 1)}, Rule: grid, Version: 3, Admin: 201, Number: 1}
	if got := Join(a, b); !same(got, want) {
		t.Errorf("Join = %v, want %v", got, want)
	}
	if got := Join(b, a); !same(got, want) {
		t.Errorf("Join, the other way = %v, want %v", got, want)
	}
}

// union returns the elements of both lists, ascending.
func union(a, b []int) []int {
	set := map[int]bool{}
	for _, n := range slices.Concat(a, b) {
		set[n] = true
	}
	return slices.Sorted(maps.Keys(set))
}

// joinOf is P7.5: what Join returns for a and b.
func joinOf(a, b api.Summary) api.Summary {
	s := api.Summary{Joined: union(a.Joined, b.Joined), Removed: union(a.Removed, b.Removed)}
	best := map[int]api.WeightEntry{}
	for _, w := range slices.Concat(a.Weights, b.Weights) {
		old, found := best[w.Server]
		if !found || slices.Compare([]int{w.Version, w.Admin, w.Number}, []int{old.Version, old.Admin, old.Number}) > 0 {
			best[w.Server] = w
		}
	}
	for _, server := range slices.Sorted(maps.Keys(best)) {
		s.Weights = append(s.Weights, best[server])
	}
	winner := a
	switch {
	case b.Rule.Kind == 0:
	case a.Rule.Kind == 0, slices.Compare([]int{b.Version, b.Admin, b.Number}, []int{a.Version, a.Admin, a.Number}) > 0:
		winner = b
	}
	s.Rule, s.Version, s.Admin, s.Number = winner.Rule, winner.Version, winner.Admin, winner.Number
	return s
}

// randomSummary returns a valid summary. Its numbers are small, so that origins are often equal.
func randomSummary(r *rand.Rand) api.Summary {
	var s api.Summary
	for server := 1; server <= api.MaxServers; server++ {
		if r.Intn(3) == 0 {
			s.Joined = append(s.Joined, server)
		}
		if r.Intn(4) == 0 {
			s.Removed = append(s.Removed, server)
		}
		if r.Intn(2) == 0 {
			s.Weights = append(s.Weights, entry(server, 1+r.Intn(9), r.Intn(2), r.Intn(3), r.Intn(3)))
		}
	}
	if r.Intn(4) > 0 {
		s.Rule = []api.Rule{majority, weighted, grid, masking}[r.Intn(4)]
		s.Version, s.Admin, s.Number = r.Intn(2), r.Intn(3), r.Intn(3)
	}
	return s
}

func TestJoinIsDefinition(t *testing.T) {
	r := rand.New(rand.NewSource(75))
	for range 20000 {
		a, b := randomSummary(r), randomSummary(r)
		got := Join(a, b)
		if want := joinOf(a, b); !same(got, want) || Validate(got) != api.OK {
			t.Fatalf("Join(%v, %v) = %v, want %v", a, b, got, want)
		}
	}
}

func TestLawsOfJoin(t *testing.T) {
	r := rand.New(rand.NewSource(76))
	for range 5000 {
		a, b, c := randomSummary(r), randomSummary(r), randomSummary(r)
		if !same(Join(Join(a, b), c), Join(a, Join(b, c))) {
			t.Fatalf("Join of %v, %v and %v is not associative", a, b, c)
		}
		if !same(Join(a, a), a) || !same(Join(a, api.Summary{}), a) || !same(Join(api.Summary{}, a), a) {
			t.Fatalf("Join of %v with itself or with the zero value", a)
		}
		if ab := Join(a, b); !same(Join(ab, b), ab) || !same(Join(ab, a), ab) || !same(Join(a, ab), ab) {
			t.Fatalf("Join of %v and %v has lost something", a, b)
		}
	}
}

// P7.6

func TestSummarize(t *testing.T) {
	g := genesis(weighted, 1, 1, 2, 1, 3, 5)
	c := api.Config{of(201, 1, join(4, 2), remove(1)), of(201, 2, weight(2, 9, 1), rule(grid, 4)), of(203, 1, join(4, 3), weight(3, 7, 2), rule(majority, 3))}
	want := api.Summary{
		Joined: []int{1, 2, 3, 4}, Removed: []int{1},
		Weights: []api.WeightEntry{entry(1, 1, 0, 0, 0), entry(2, 9, 1, 201, 2), entry(3, 7, 2, 203, 1), entry(4, 3, 0, 203, 1)},
		Rule:    grid, Version: 4, Admin: 201, Number: 2,
	}
	if got := Summarize(g, c); !same(got, want) {
		t.Errorf("Summarize = %v, want %v", got, want)
	}
	for _, g := range geneses() {
		if got := Summarize(g, nil); !same(got, Initial(g)) {
			t.Errorf("Summarize(%v, nil) = %v", g, got)
		}
	}
}

func TestSummarizeIsDefinition(t *testing.T) {
	r := rand.New(rand.NewSource(706))
	for range 20 {
		for _, c := range configs(randomProposals(r)) {
			for _, g := range geneses() {
				got, want := Summarize(g, c), Initial(g)
				for _, p := range c {
					want = joinOf(want, summaryOf(p))
				}
				if !same(got, want) || Validate(got) != api.OK {
					t.Fatalf("Summarize(%v, %v) = %v, want %v", g, c, got, want)
				}
			}
		}
	}
}

// P7.7

func TestView(t *testing.T) {
	for _, x := range []struct {
		name string
		s    api.Summary
		want api.View
	}{
		{"the zero value", api.Summary{}, view(majority)},
		{"no rule", api.Summary{Joined: []int{3}, Weights: []api.WeightEntry{entry(3, 2, 0, 0, 0)}}, view(majority, 3, 2)},
		{"a rule", api.Summary{Rule: masking, Version: 4, Admin: 202, Number: 3}, view(masking)},
		{"no entry for a server", api.Summary{Joined: []int{1, 4, 9}, Weights: []api.WeightEntry{entry(4, 7, 0, 0, 0)}, Rule: grid}, view(grid, 1, 1, 4, 7, 9, 1)},
		{"entries for other servers", api.Summary{Joined: []int{5}, Weights: []api.WeightEntry{entry(4, 7, 0, 0, 0), entry(6, 8, 0, 0, 0)}}, view(majority, 5, 1)},
		{"removed servers", api.Summary{Joined: []int{1, 2, 3, 12}, Removed: []int{1, 3}}, view(majority, 2, 1, 12, 1)},
		{"removed servers that never joined", api.Summary{Joined: []int{2, 4}, Removed: []int{1, 3, 5}}, view(majority, 2, 1, 4, 1)},
		{"all servers removed", api.Summary{Joined: []int{1, 2}, Removed: []int{1, 2}, Rule: weighted, Weights: []api.WeightEntry{entry(1, 9, 0, 0, 0)}}, view(weighted)},
	} {
		if got := View(x.s); !sameView(got, x.want) {
			t.Errorf("%s: View(%v) = %v, want %v", x.name, x.s, got, x.want)
		}
	}
}

// viewOf is P7.7: what View returns for s.
func viewOf(s api.Summary) api.View {
	v := api.View{Rule: s.Rule}
	if s.Rule.Kind == 0 {
		v.Rule.Kind = api.RuleMajority
	}
	for server := 1; server <= api.MaxServers; server++ {
		m := api.Member{Server: server, Weight: 1}
		for _, w := range s.Weights {
			if w.Server == server {
				m.Weight = w.Weight
			}
		}
		if slices.Contains(s.Joined, server) && !slices.Contains(s.Removed, server) {
			v.Members = append(v.Members, m)
		}
	}
	return v
}

func TestViewIsDefinition(t *testing.T) {
	r := rand.New(rand.NewSource(77))
	for range 10000 {
		s := randomSummary(r)
		if got, want := View(s), viewOf(s); !sameView(got, want) || quorum.ValidateView(got) != api.OK {
			t.Fatalf("View(%v) = %v, want %v", s, got, want)
		}
	}
	for _, g := range geneses() {
		if got := View(Initial(g)); !sameView(got, api.View(g)) {
			t.Errorf("View(Initial(%v)) = %v", g, got)
		}
	}
}

func TestViewsOfConfigurations(t *testing.T) {
	g := genesis(weighted, 1, 1, 2, 1, 3, 5)
	for _, x := range []struct {
		name string
		c    api.Config
		want api.View
	}{
		{"no proposals", nil, view(weighted, 1, 1, 2, 1, 3, 5)},
		{"the example of the chapter", api.Config{of(201, 1, join(4, 1), remove(1))}, view(weighted, 2, 1, 3, 5, 4, 1)},
		{"a weight of version 2 behind one of version 1", api.Config{of(201, 1, weight(2, 7, 1)), of(202, 1, weight(2, 8, 2))}, view(weighted, 1, 1, 2, 8, 3, 5)},
		{"a weight of version 2 before one of version 1", api.Config{of(201, 1, weight(2, 7, 2)), of(202, 1, weight(2, 8, 1))}, view(weighted, 1, 1, 2, 7, 3, 5)},
		{"weights of the same version", api.Config{of(201, 3, weight(2, 7, 2)), of(202, 1, weight(2, 8, 2))}, view(weighted, 1, 1, 2, 8, 3, 5)},
		{"weights of the same version and administrator", api.Config{of(201, 1, weight(2, 7, 2)), of(201, 2, weight(2, 8, 2))}, view(weighted, 1, 1, 2, 8, 3, 5)},
		{"a weight of a later administrator", api.Config{of(201, 1, weight(3, 1, 1)), of(203, 1, join(3, 9))}, view(weighted, 1, 1, 2, 1, 3, 1)},
		{"a join of a member", api.Config{of(201, 1, join(3, 2))}, view(weighted, 1, 1, 2, 1, 3, 2)},
		{"a weight without a join", api.Config{of(201, 1, weight(9, 4, 1))}, view(weighted, 1, 1, 2, 1, 3, 5)},
		{"a weight before a join", api.Config{of(201, 1, weight(9, 4, 1)), of(201, 2, join(9, 2))}, view(weighted, 1, 1, 2, 1, 3, 5, 9, 4)},
		{"a removal before a join", api.Config{of(201, 1, remove(9)), of(201, 2, join(9, 2))}, view(weighted, 1, 1, 2, 1, 3, 5)},
		{"all members removed", api.Config{of(201, 1, remove(1), remove(2)), of(202, 1, remove(2), remove(3))}, view(weighted)},
		{"a rule of version 2 before one of version 1", api.Config{of(201, 1, rule(grid, 2)), of(202, 1, rule(masking, 1))}, view(grid, 1, 1, 2, 1, 3, 5)},
		{"rules of the same version", api.Config{of(201, 1, rule(grid, 2)), of(202, 1, rule(masking, 2))}, view(masking, 1, 1, 2, 1, 3, 5)},
		{"rules of the same version and administrator", api.Config{of(201, 1, rule(grid, 2)), of(201, 2, rule(majority, 2))}, view(majority, 1, 1, 2, 1, 3, 5)},
	} {
		if got := View(Summarize(g, x.c)); !sameView(got, x.want) {
			t.Errorf("%s: the view of %v is %v, want %v", x.name, x.c, got, x.want)
		}
	}
}

// P7.8

// numbers encodes numbers one after the other.
func numbers(list ...uint64) []byte {
	var b []byte
	for _, n := range list {
		b = binary.AppendUvarint(b, n)
	}
	return b
}

// fields returns the numbers of the encoding of g.
func fields(g api.Genesis) []uint64 {
	out := []uint64{uint64(len(g.Members))}
	for _, m := range g.Members {
		out = append(out, uint64(m.Server), uint64(m.Weight))
	}
	return append(out, uint64(g.Rule.Kind), uint64(g.Rule.Columns), uint64(g.Rule.Faulty))
}

func TestAppendGenesis(t *testing.T) {
	if got := AppendGenesis([]byte("ab"), genesis(grid, 2, 1, 11, 9)); !bytes.Equal(got, []byte{'a', 'b', 2, 2, 1, 11, 9, 3, 3, 0}) {
		t.Errorf("AppendGenesis of a grid = %v", got)
	}
	if got := AppendGenesis(nil, genesis(masking, 12, 5)); !bytes.Equal(got, []byte{1, 12, 5, 4, 0, 2}) {
		t.Errorf("AppendGenesis of a masking rule = %v", got)
	}
	for _, g := range geneses() {
		if got, want := AppendGenesis([]byte{7}, g), append([]byte{7}, numbers(fields(g)...)...); !bytes.Equal(got, want) {
			t.Errorf("AppendGenesis(7, %v) = %v, want %v", g, got, want)
		}
	}
}

func TestDecodeGenesisErrors(t *testing.T) {
	overlong, tooGreat := []byte{128, 0}, bytes.Repeat([]byte{255}, 10)
	with := func(parts ...[]byte) []byte { return bytes.Join(parts, nil) }
	for _, x := range []struct {
		name string
		b    []byte
		e    api.Errno
	}{
		{"nothing", nil, api.ErrTruncated},
		{"a number of members that is overlong", overlong, api.ErrInvalid},
		{"a number of members of more than 64 bits", tooGreat, api.ErrRange},
		{"a number of members of 2^31", numbers(1 << 31), api.ErrRange},
		{"a number of members of 2^63", numbers(1 << 63), api.ErrRange},
		{"a number of members of 2^31 - 1", numbers(1<<31 - 1), api.ErrTooLong},
		{"a number of members of 2^32 + 1", numbers(1<<32+1, 1, 1, 1, 0, 0), api.ErrRange},
		{"a number of members of 13", numbers(13), api.ErrTooLong},
		{"a number of members of 12 alone", numbers(12), api.ErrTruncated},
		{"no members", numbers(0, 1, 0, 0), api.ErrInvalid},
		{"no members and no rule", numbers(0, 0, 0, 0), api.ErrKind},
		{"a server of 2^31", numbers(1, 1<<31), api.ErrRange},
		{"a server of 2^32 + 1", numbers(1, 1<<32+1, 1, 1, 0, 0), api.ErrRange},
		{"a server that is overlong", with(numbers(1), overlong), api.ErrInvalid},
		{"a weight of 2^31", numbers(1, 1, 1<<31), api.ErrRange},
		{"a weight that is overlong", with(numbers(1, 1), overlong), api.ErrInvalid},
		{"a last field that is overlong", with(numbers(1, 1, 1, 1, 0), overlong), api.ErrInvalid},
		{"a last field of 2^31", numbers(1, 1, 1, 1, 0, 1<<31), api.ErrRange},
		{"a last field too few", numbers(1, 1, 1, 1, 0), api.ErrTruncated},
		{"a member too few", numbers(2, 1, 1, 1, 0, 0), api.ErrTruncated},
		{"server 0", numbers(1, 0, 1, 1, 0, 0), api.ErrRange},
		{"server 13", numbers(1, 13, 1, 1, 0, 0), api.ErrRange},
		{"weight 0", numbers(1, 1, 0, 1, 0, 0), api.ErrRange},
		{"weight 10", numbers(1, 1, 10, 1, 0, 0), api.ErrRange},
		{"servers descending", numbers(2, 2, 1, 1, 1, 1, 0, 0), api.ErrOrder},
		{"a rule of an unknown kind", numbers(1, 1, 1, 5, 0, 0), api.ErrKind},
		{"a majority with columns", numbers(1, 1, 1, 1, 1, 0), api.ErrRange},
		{"a masking rule with 13 faulty", numbers(1, 1, 1, 4, 0, 13), api.ErrRange},

		{"too many members before the end", numbers(14), api.ErrTooLong},
		{"too many members before one that is overlong", with(numbers(13), overlong), api.ErrTooLong},
		{"the numbers before no members", numbers(0, 1, 0), api.ErrTruncated},
		{"the numbers before a bad member", numbers(1, 13, 10, 9, 0), api.ErrTruncated},
		{"an overlong number before a bad rule", with(numbers(1, 13, 10, 9, 0), overlong), api.ErrInvalid},
		{"a number too great before one that is overlong", with(numbers(1, 1<<31), overlong), api.ErrRange},
		{"an overlong number before one too great", with(numbers(1), overlong, numbers(1<<31)), api.ErrInvalid},
		{"the rule before the members", numbers(2, 2, 1, 1, 1, 9, 0, 0), api.ErrKind},
	} {
		if g, n, e := DecodeGenesis(x.b); !sameGenesis(g, api.Genesis{}) || n != 0 || e != x.e {
			t.Errorf("%s: DecodeGenesis(%v) = %v, %d, %v, want %v", x.name, x.b, g, n, e, x.e)
		}
	}
}

// decoded is P7.8: what DecodeGenesis returns for b.
func decoded(b []byte) (api.Genesis, int, api.Errno) {
	var list []int
	used := 0
	for len(list) < 4 || len(list) < 4+2*list[0] {
		v, n, e := wire.Uint(b[used:])
		switch {
		case e != api.OK:
			return api.Genesis{}, 0, e
		case v >= 1<<31:
			return api.Genesis{}, 0, api.ErrRange
		case len(list) == 0 && v > 12:
			return api.Genesis{}, 0, api.ErrTooLong
		}
		list = append(list, int(v))
		used += n
	}
	r := list[len(list)-3:]
	g := genesis(api.Rule{Kind: r[0], Columns: r[1], Faulty: r[2]}, list[1:len(list)-3]...)
	if e := genesisError(g); e != api.OK {
		return api.Genesis{}, 0, e
	}
	return g, used, api.OK
}

// checkDecode checks what DecodeGenesis returns for b, and that it accepts nothing but the encoding of what it returns.
func checkDecode(t *testing.T, b []byte) {
	t.Helper()
	g, n, e := DecodeGenesis(b)
	want, wantN, wantE := decoded(b)
	if !sameGenesis(g, want) || n != wantN || e != wantE {
		t.Errorf("DecodeGenesis(%v) = %v, %d, %v, want %v, %d, %v", b, g, n, e, want, wantN, wantE)
	}
	if e == api.OK && !bytes.Equal(AppendGenesis(nil, g), b[:n]) {
		t.Errorf("DecodeGenesis(%v) = %v, %d: it consumes another encoding", b, g, n)
	}
}

// Each number of an encoding is replaced by numbers at which a decision changes, and by bytes that are no number.
func TestDecodeOfChangedEncodings(t *testing.T) {
	bad := [][]byte{nil, {128}, {128, 0}, {129, 128, 0}, bytes.Repeat([]byte{128}, 10), append(bytes.Repeat([]byte{128}, 9), 2), bytes.Repeat([]byte{255}, 12)}
	for _, n := range []uint64{0, 1, 2, 3, 4, 5, 6, 9, 10, 12, 13, 127, 128, 1<<31 - 1, 1 << 31, 1 << 32, 1<<32 + 1, 1 << 63, math.MaxUint64} {
		bad = append(bad, numbers(n))
	}
	for _, g := range geneses() {
		list := fields(g)
		for i := range list {
			for _, x := range bad {
				checkDecode(t, bytes.Join([][]byte{numbers(list[:i]...), x, numbers(list[i+1:]...)}, nil))
				checkDecode(t, append(numbers(list[:i]...), x...))
			}
		}
	}
}

func TestDecodeOfRandomNumbers(t *testing.T) {
	r := rand.New(rand.NewSource(78))
	for range 20000 {
		list := make([]uint64, r.Intn(12))
		for i := range list {
			list[i] = uint64(r.Intn(5))
		}
		checkDecode(t, numbers(list...))
	}
}

func TestPrefixesOfEncodingsAreTruncated(t *testing.T) {
	for _, g := range geneses() {
		b := AppendGenesis(nil, g)
		for i := range b {
			if h, n, e := DecodeGenesis(b[:i]); !sameGenesis(h, api.Genesis{}) || n != 0 || e != api.ErrTruncated {
				t.Errorf("DecodeGenesis(%v) = %v, %d, %v", b[:i], h, n, e)
			}
		}
	}
}

func TestEncodingsDecode(t *testing.T) {
	for _, g := range geneses() {
		b := AppendGenesis(nil, g)
		for _, tail := range []string{"", "\x00", "\x01", "\x80", "\xff\xff\xff\xff\xff\xff\xff\xff\xff\xff\xff", string(b)} {
			if h, n, e := DecodeGenesis(append(bytes.Clone(b), tail...)); !sameGenesis(g, h) || n != len(b) || e != api.OK {
				t.Errorf("DecodeGenesis of the encoding of %v = %v, %d, %v", g, h, n, e)
			}
		}
	}
}

// P7.9

func TestSummaryOfUnion(t *testing.T) {
	r := rand.New(rand.NewSource(79))
	for i := range 4 {
		g, list := geneses()[i], configs(randomProposals(r))
		for _, a := range list {
			for _, b := range list {
				x, y := Summarize(g, a), Summarize(g, b)
				both, other := Join(x, y), Join(y, x)
				if want := Summarize(g, config.Union(a, b)); !same(both, want) || !same(other, want) {
					t.Fatalf("Join of the summaries of %v and %v is %v and %v, want %v", a, b, both, other, want)
				}
			}
		}
	}
}

func TestRemovedServersStayRemoved(t *testing.T) {
	r := rand.New(rand.NewSource(710))
	for i := range 4 {
		g, list := geneses()[i], configs(randomProposals(r))
		for _, a := range list {
			removed := Summarize(g, a).Removed
			for _, b := range list {
				if !config.Contains(b, a) {
					continue
				}
				for _, m := range View(Summarize(g, b)).Members {
					if slices.Contains(removed, m.Server) {
						t.Fatalf("server %d is removed in %v, but is in the view of %v", m.Server, a, b)
					}
				}
			}
		}
	}
}

// R1

// callAll calls all functions.
func callAll(g api.Genesis, c api.Config, a, b api.Summary) {
	ValidateGenesis(g)
	Initial(g)
	DecodeGenesis(AppendGenesis(nil, g))
	for _, p := range c {
		Of(p)
	}
	View(Summarize(g, c))
	Validate(a)
	Equal(a, b)
	View(a)
	View(Join(a, b))
}

func TestMalformedArguments(t *testing.T) {
	proposals := append(malformedProposals(), randomProposals(rand.New(rand.NewSource(1)))...)
	summaries := append(malformedSummaries(), api.Summary{}, full())
	for _, g := range append(malformedGeneses(), geneses()...) {
		for _, a := range summaries {
			for _, b := range summaries {
				callAll(g, proposals, a, b)
			}
		}
	}
	for _, p := range proposals {
		for _, q := range proposals {
			View(Summarize(geneses()[2], api.Config{p, q, p}))
		}
	}
}

// R2

// withRoom returns a copy of list with room behind it into which an append could write.
func withRoom[E any](list []E) []E {
	out := make([]E, len(list)+100)
	return out[:copy(out, list)]
}

// whole returns list with the elements behind it that an append could reach.
func whole[E any](list []E) []E { return list[:cap(list)] }

// untouched reports whether an argument that withRoom has made of list is as it was, with the room behind it.
func untouched[E comparable](argument, list []E) bool {
	return slices.Equal(whole(argument), whole(withRoom(list)))
}

// roomy returns a copy of s with room behind each of its lists.
func roomy(s api.Summary) api.Summary {
	s.Joined, s.Removed, s.Weights = withRoom(s.Joined), withRoom(s.Removed), withRoom(s.Weights)
	return s
}

// overwrite changes the elements of the lists of s, and those behind them.
func overwrite(s api.Summary) {
	for _, list := range [][]int{whole(s.Joined), whole(s.Removed)} {
		for i := range list {
			list[i] = -7
		}
	}
	for i := range whole(s.Weights) {
		whole(s.Weights)[i] = entry(-7, -7, -7, -7, -7)
	}
}

func TestSummariesAreKept(t *testing.T) {
	summaries := append(malformedSummaries(), api.Summary{}, full())
	for _, a := range summaries {
		for _, b := range summaries {
			x, y := roomy(a), roomy(b)
			Validate(x)
			Equal(x, y)
			View(x)
			Join(x, y)
			for i, s := range []api.Summary{x, y} {
				want := []api.Summary{a, b}[i]
				if !untouched(s.Joined, want.Joined) || !untouched(s.Removed, want.Removed) || !untouched(s.Weights, want.Weights) || !same(s, want) {
					t.Fatalf("a summary %v has become %v", want, s)
				}
			}
		}
	}
}

func TestGenesesAndConfigurationsAreKept(t *testing.T) {
	proposals := append(malformedProposals(), randomProposals(rand.New(rand.NewSource(2)))...)
	for _, g := range append(malformedGeneses(), geneses()...) {
		h, b, c := genesis(g.Rule), withRoom([]byte("before")), api.Config(withRoom(proposals))
		h.Members = withRoom(g.Members)
		for i, p := range c {
			c[i].Changes = withRoom(p.Changes)
		}
		callAll(h, c, api.Summary{}, api.Summary{})
		AppendGenesis(b, h)
		if !untouched(h.Members, g.Members) || !untouched(b, []byte("before")) {
			t.Fatalf("the arguments have become %v, %q", whole(h.Members), whole(b))
		}
		for i, p := range proposals {
			if !untouched(c[i].Changes, p.Changes) || proposal.Compare(c[i], p) != 0 {
				t.Fatalf("a proposal %v has become %v", p, c[i])
			}
		}
		encoded := withRoom(numbers(fields(g)...))
		DecodeGenesis(encoded)
		if !untouched(encoded, numbers(fields(g)...)) {
			t.Fatalf("DecodeGenesis has written into its argument: %v", whole(encoded))
		}
	}
}

// makers returns calls of the functions that return summaries.
func makers(g api.Genesis, c api.Config, a, b api.Summary) map[string]func() api.Summary {
	return map[string]func() api.Summary{
		"Initial":          func() api.Summary { return Initial(g) },
		"Of":               func() api.Summary { return Of(c[0]) },
		"Summarize":        func() api.Summary { return Summarize(g, c) },
		"Summarize of one": func() api.Summary { return Summarize(g, c[:1]) },
		"Summarize of nil": func() api.Summary { return Summarize(g, nil) },
		"Join":             func() api.Summary { return Join(a, b) },
		"Join with itself": func() api.Summary { return Join(a, a) },
		"Join with zero":   func() api.Summary { return Join(a, api.Summary{}) },
		"Join of zero":     func() api.Summary { return Join(api.Summary{}, b) },
	}
}

func TestSummariesAreNewMemory(t *testing.T) {
	r := rand.New(rand.NewSource(72))
	for range 50 {
		for name := range makers(api.Genesis{}, nil, full(), full()) {
			g, c, a, b := geneses()[r.Intn(9)], api.Config(randomProposals(r)), roomy(randomSummary(r)), roomy(randomSummary(r))
			g.Members = withRoom(g.Members)
			call := makers(g, c, a, b)[name]
			first, second, third := call(), call(), roomy(call())
			overwrite(a)
			overwrite(b)
			clear(whole(g.Members))
			for _, p := range c {
				clear(p.Changes)
			}
			if !same(first, third) {
				t.Fatalf("%s: the result has changed with an argument: %v", name, first)
			}
			overwrite(first)
			if !same(second, third) {
				t.Fatalf("%s: a result has changed with another one: %v", name, second)
			}
		}
	}
}

// The lists of a result share no memory with each other, even if those of the arguments do.
func TestListsShareNoMemory(t *testing.T) {
	shared := withRoom([]int{1, 2, 3})
	s := api.Summary{Joined: shared, Removed: shared}
	for name, got := range map[string]api.Summary{
		"Join with zero":   Join(s, api.Summary{}),
		"Join with itself": Join(s, s),
		"Of":               Of(of(201, 1, join(1, 1), remove(1), join(2, 1), remove(2), join(3, 1), remove(3))),
	} {
		for i := range whole(got.Joined) {
			whole(got.Joined)[i] = -7
		}
		if !slices.Equal(got.Removed, []int{1, 2, 3}) || !slices.Equal(shared, []int{1, 2, 3}) {
			t.Errorf("%s: Removed has changed with Joined: %v", name, got)
		}
	}
}

func TestViewsAreNewMemory(t *testing.T) {
	s := roomy(full())
	first, second, want := View(s), View(s), view(grid, 1, 1, 2, 3)
	overwrite(s)
	if !sameView(first, want) {
		t.Errorf("the view has changed with the summary: %v", first)
	}
	clear(whole(first.Members))
	if !sameView(second, want) {
		t.Errorf("a view has changed with another one: %v", second)
	}
}

func TestEncodingsAreNewMemory(t *testing.T) {
	for _, g := range geneses() {
		for _, text := range []string{"", "before"} {
			b, h := withRoom([]byte(text)), api.Genesis{Members: withRoom(g.Members), Rule: g.Rule}
			first, second := AppendGenesis(b, h), AppendGenesis(b, h)
			want := append([]byte(text), numbers(fields(g)...)...)
			clear(whole(b))
			clear(whole(h.Members))
			if !bytes.Equal(first, want) {
				t.Fatalf("the result has changed with an argument: %v", first)
			}
			clear(whole(first))
			if !bytes.Equal(second, want) {
				t.Fatalf("a result has changed with another one: %v", second)
			}
		}
		b := AppendGenesis(nil, g)
		first, _, _ := DecodeGenesis(b)
		second, _, _ := DecodeGenesis(b)
		clear(b)
		if !sameGenesis(first, g) {
			t.Fatalf("the genesis has changed with its encoding: %v", first)
		}
		clear(whole(first.Members))
		if !sameGenesis(second, g) {
			t.Fatalf("a genesis has changed with another one: %v", second)
		}
	}
}

// R5

func TestNilIsEmpty(t *testing.T) {
	empty := api.Summary{Joined: []int{}, Removed: []int{}, Weights: []api.WeightEntry{}}
	for _, s := range []api.Summary{{}, full(), {Rule: grid}} {
		other := s
		other.Joined, other.Removed, other.Weights = withRoom(s.Joined), withRoom(s.Removed), withRoom(s.Weights)
		if !Equal(s, other) || !Equal(other, s) || Validate(other) != api.OK || !sameView(View(s), View(other)) {
			t.Errorf("nil and empty lists differ in %v", s)
		}
		if !same(Join(s, empty), s) || !same(Join(empty, s), s) || !same(Join(other, api.Summary{}), s) {
			t.Errorf("Join of %v and an empty summary", s)
		}
	}
	for _, g := range geneses() {
		if a, b := AppendGenesis(nil, g), AppendGenesis([]byte{}, g); !bytes.Equal(a, b) || len(a) == 0 {
			t.Errorf("AppendGenesis of %v gives %v to nil and %v to an empty slice", g, a, b)
		}
		if !same(Summarize(g, nil), Summarize(g, api.Config{})) {
			t.Errorf("nil and empty configurations differ for %v", g)
		}
	}
	for _, members := range [][]api.Member{nil, {}} {
		g := api.Genesis{Members: members, Rule: majority}
		if ValidateGenesis(g) != api.ErrInvalid || !same(Initial(g), api.Summary{Rule: majority}) {
			t.Errorf("a genesis without members: %v", g)
		}
	}
	for _, list := range [][]api.Change{nil, {}} {
		if got := Of(of(201, 1, list...)); !same(got, api.Summary{}) {
			t.Errorf("Of no changes = %v", got)
		}
	}
	for _, b := range [][]byte{nil, {}} {
		if g, n, e := DecodeGenesis(b); !sameGenesis(g, api.Genesis{}) || n != 0 || e != api.ErrTruncated {
			t.Errorf("DecodeGenesis of nothing = %v, %d, %v", g, n, e)
		}
	}
}

// R9

func TestLongArguments(t *testing.T) {
	const size = 1 << 18
	g, p, c, s := genesis(majority), of(201, 1), make(api.Config, size), api.Summary{}
	for i := range size {
		server := size - i
		g.Members = append(g.Members, api.Member{Server: i, Weight: 1})
		p.Changes = append(p.Changes, join(server, 1), remove(server+1), weight(server, 2, 1))
		c[i] = of(i, 1, join(server, 1), remove(server+1))
		s.Joined, s.Removed, s.Weights = append(s.Joined, i), append(s.Removed, i+1), append(s.Weights, entry(i, 1, 0, 0, 0))
	}
	callAll(g, c, s, s)
	if got := Join(s, Of(p)); len(got.Joined) != size+1 || len(got.Weights) != size+1 {
		t.Errorf("Join of long summaries has %d servers and %d weights", len(got.Joined), len(got.Weights))
	}
	before := bytes.Repeat([]byte("x"), 1<<24)
	b := AppendGenesis(before, all(grid))
	if !bytes.Equal(b[:len(before)], before) || !bytes.Equal(b[len(before):], numbers(fields(all(grid))...)) {
		t.Errorf("AppendGenesis behind many bytes")
	}
	after := append(numbers(fields(all(grid))...), before...)
	if h, n, e := DecodeGenesis(after); !sameGenesis(h, all(grid)) || n != len(after)-len(before) || e != api.OK {
		t.Errorf("DecodeGenesis before many bytes = %v, %d, %v", h, n, e)
	}
}

func FuzzDecodeGenesis(f *testing.F) {
	for _, g := range append(geneses(), malformedGeneses()[:6]...) {
		f.Add(numbers(fields(g)...))
	}
	f.Add([]byte{13})
	f.Add([]byte{1, 1, 1, 1, 128, 0})
	f.Fuzz(func(t *testing.T, b []byte) {
		before := bytes.Clone(b)
		checkDecode(t, b)
		if !bytes.Equal(b, before) {
			t.Errorf("DecodeGenesis has changed %v to %v", before, b)
		}
	})
}

// FuzzConfigurations makes two configurations of the bytes, and compares the functions with their definitions.
func FuzzConfigurations(f *testing.F) {
	f.Add(int64(1), uint8(63), uint8(27))
	f.Add(int64(2), uint8(0), uint8(21))
	f.Fuzz(func(t *testing.T, seed int64, first, second uint8) {
		r := rand.New(rand.NewSource(seed))
		g, list := geneses()[r.Intn(9)], configs(randomProposals(r))
		a, b := list[first%64], list[second%64]
		x, y := Summarize(g, a), Summarize(g, b)
		both := Join(x, y)
		if !same(both, joinOf(x, y)) || !same(both, Summarize(g, config.Union(a, b))) || !sameView(View(both), viewOf(both)) {
			t.Errorf("the configurations %v and %v of %v: %v", a, b, g, both)
		}
	})
}
