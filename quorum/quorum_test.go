package quorum

import (
	"math"
	"math/bits"
	"math/rand"
	"slices"
	"testing"

	"elasticstore/api"
)

var (
	majority = api.Rule{Kind: api.RuleMajority}
	weighted = api.Rule{Kind: api.RuleWeighted}
)

func grid(columns int) api.Rule { return api.Rule{Kind: api.RuleGrid, Columns: columns} }

func masking(faulty int) api.Rule { return api.Rule{Kind: api.RuleMasking, Faulty: faulty} }

// of returns a view of servers of weight 1.
func of(r api.Rule, servers ...int) api.View {
	v := api.View{Rule: r}
	for _, s := range servers {
		v.Members = append(v.Members, api.Member{Server: s, Weight: 1})
	}
	return v
}

// heavy returns a view of pairs of a server and its weight.
func heavy(r api.Rule, pairs ...int) api.View {
	v := api.View{Rule: r}
	for p := range slices.Chunk(pairs, 2) {
		v.Members = append(v.Members, api.Member{Server: p[0], Weight: p[1]})
	}
	return v
}

// rules returns all valid rules.
func rules() []api.Rule {
	out := []api.Rule{majority, weighted}
	for columns := 1; columns <= api.MaxServers; columns++ {
		out = append(out, grid(columns))
	}
	for faulty := range api.MaxServers + 1 {
		out = append(out, masking(faulty))
	}
	return out
}

// servers returns n servers: the first, the last or any ones, ascending.
func servers(r *rand.Rand, n, choice int) []int {
	out := make([]int, n)
	any := r.Perm(api.MaxServers)[:n]
	slices.Sort(any)
	for i := range out {
		out[i] = []int{i + 1, api.MaxServers - n + i + 1, any[i] + 1}[choice]
	}
	return out
}

// withWeights returns v with weights from r: small, any, or one that is as heavy as the others.
func withWeights(r *rand.Rand, v api.View, choice int) api.View {
	sum := 0
	for i := range v.Members {
		v.Members[i].Weight = 1 + r.Intn([]int{2, api.MaxWeight, 2}[choice])
		sum += v.Members[i].Weight
	}
	if choice == 2 && len(v.Members) > 0 {
		i := r.Intn(len(v.Members))
		v.Members[i].Weight = max(1, min(sum-v.Members[i].Weight, api.MaxWeight))
	}
	return v
}

// samples returns valid views of all rules with up to n members, from a fixed sequence.
func samples(n int) []api.View {
	r := rand.New(rand.NewSource(4))
	var out []api.View
	for _, rule := range rules() {
		for size := range n + 1 {
			for choice := range 3 {
				out = append(out, withWeights(r, of(rule, servers(r, size, choice)...), choice))
			}
		}
	}
	for range 100 {
		out = append(out, withWeights(r, of(weighted, servers(r, r.Intn(n+1), 2)...), r.Intn(3)))
	}
	return out
}

// malformed returns views that are not valid.
func malformed() []api.View {
	out := []api.View{
		{}, {Rule: weighted, Members: make([]api.Member, 20)},
		of(majority, 2, 1), of(majority, 1, 1), of(grid(1), 3, 2, 1, 2, 3), of(masking(1), 4, 4, 4, 4, 4, 4),
	}
	for _, server := range []int{math.MinInt, -65, -1, 0, 13, 16, 17, 64, 65, math.MaxInt} {
		out = append(out, of(majority, server), of(grid(2), 1, server), of(masking(0), server, server), of(weighted, server, 3, server))
	}
	for _, weight := range []int{math.MinInt, -1, 0, 10, math.MaxInt} {
		out = append(out, heavy(weighted, 1, weight), heavy(weighted, 1, math.MaxInt, 2, weight, 3, 9), heavy(majority, 1, 1, 2, weight))
	}
	for _, x := range []int{math.MinInt, -1, 13, math.MaxInt} {
		for _, r := range []api.Rule{{Kind: x}, {Kind: 1, Columns: x}, {Kind: 2, Faulty: x}, grid(x), {Kind: 3, Columns: 2, Faulty: x}, masking(x), {Kind: 4, Columns: x}} {
			out = append(out, of(r), of(r, 1), of(r, 1, 2, 3, 4, 5, 6, 7, 8, 9, 10, 11, 12))
		}
	}
	return append(out, of(grid(0), 1, 2, 3))
}

// P4.1

func TestValidateRule(t *testing.T) {
	for _, r := range rules() {
		if e := ValidateRule(r); e != api.OK {
			t.Errorf("ValidateRule(%v) = %v", r, e)
		}
	}
	for _, x := range []struct {
		r api.Rule
		e api.Errno
	}{
		{api.Rule{}, api.ErrKind},
		{api.Rule{Kind: -1}, api.ErrKind},
		{api.Rule{Kind: 5}, api.ErrKind},
		{api.Rule{Kind: math.MaxInt}, api.ErrKind},
		{api.Rule{Kind: math.MinInt}, api.ErrKind},
		{api.Rule{Kind: 1<<32 + 1}, api.ErrKind},
		{grid(0), api.ErrRange},
		{grid(-1), api.ErrRange},
		{grid(13), api.ErrRange},
		{grid(math.MaxInt), api.ErrRange},
		{grid(math.MinInt), api.ErrRange},
		{masking(-1), api.ErrRange},
		{masking(13), api.ErrRange},
		{masking(math.MaxInt), api.ErrRange},
		{masking(math.MinInt), api.ErrRange},
		{api.Rule{Kind: 1, Columns: 1}, api.ErrRange},
		{api.Rule{Kind: 1, Columns: -1}, api.ErrRange},
		{api.Rule{Kind: 1, Faulty: 1}, api.ErrRange},
		{api.Rule{Kind: 1, Faulty: -1}, api.ErrRange},
		{api.Rule{Kind: 2, Columns: 1}, api.ErrRange},
		{api.Rule{Kind: 2, Columns: -1}, api.ErrRange},
		{api.Rule{Kind: 2, Faulty: 1}, api.ErrRange},
		{api.Rule{Kind: 2, Faulty: -1}, api.ErrRange},
		{api.Rule{Kind: 3, Columns: 2, Faulty: 1}, api.ErrRange},
		{api.Rule{Kind: 3, Columns: 2, Faulty: -1}, api.ErrRange},
		{api.Rule{Kind: 4, Columns: 1}, api.ErrRange},
		{api.Rule{Kind: 4, Columns: -1}, api.ErrRange},
		{api.Rule{Kind: 4, Columns: 1, Faulty: 1}, api.ErrRange},
		{api.Rule{Kind: 0, Columns: 99, Faulty: 99}, api.ErrKind},
		{api.Rule{Kind: 5, Columns: 1, Faulty: 1}, api.ErrKind},
	} {
		if e := ValidateRule(x.r); e != x.e {
			t.Errorf("ValidateRule(%v) = %v, want %v", x.r, e, x.e)
		}
	}
}

// P4.2

func TestValidateView(t *testing.T) {
	for _, v := range samples(api.MaxServers) {
		if e := ValidateView(v); e != api.OK {
			t.Errorf("ValidateView(%v) = %v", v, e)
		}
	}
	for _, v := range malformed() {
		if e := ValidateView(v); e == api.OK {
			t.Errorf("ValidateView(%v) = OK", v)
		}
	}
	for _, x := range []struct {
		name string
		v    api.View
		e    api.Errno
	}{
		{"no members", of(majority), api.OK},
		{"the least server and weight", heavy(weighted, 1, 1), api.OK},
		{"the greatest server and weight", heavy(weighted, 12, 9), api.OK},
		{"no rule", api.View{}, api.ErrKind},
		{"columns of a majority", of(api.Rule{Kind: 1, Columns: 1}, 1), api.ErrRange},
		{"a grid without columns", of(grid(0)), api.ErrRange},
		{"server 0", of(majority, 0), api.ErrRange},
		{"server -1", of(majority, -1), api.ErrRange},
		{"server 13", of(majority, 1, 13), api.ErrRange},
		{"weight 0", heavy(majority, 1, 0), api.ErrRange},
		{"weight -1", heavy(majority, 1, -1), api.ErrRange},
		{"weight 10", heavy(majority, 1, 1, 2, 10), api.ErrRange},
		{"a server twice", of(majority, 2, 2), api.ErrOrder},
		{"servers not ascending", of(majority, 1, 3, 2), api.ErrOrder},
		{"servers that ascend again", of(majority, 5, 1, 6), api.ErrOrder},
		{"the rule before the members", of(api.Rule{Kind: 9}, 0), api.ErrKind},
		{"the range of the rule before the order", of(masking(13), 2, 1), api.ErrRange},
		{"range before order in one member", heavy(majority, 2, 1, 1, 0), api.ErrRange},
		{"a server out of range and order", of(majority, 2, 0), api.ErrRange},
		{"order before range in the next member", of(majority, 2, 1, 0), api.ErrOrder},
		{"order before a weight in the next member", heavy(majority, 2, 1, 2, 1, 3, 10), api.ErrOrder},
		{"range before order in the next member", heavy(majority, 2, 0, 1, 1), api.ErrRange},
	} {
		if e := ValidateView(x.v); e != x.e {
			t.Errorf("%s: ValidateView(%v) = %v, want %v", x.name, x.v, e, x.e)
		}
	}
}

func TestFaulty(t *testing.T) {
	for _, r := range rules() {
		if got := Faulty(r); got != r.Faulty {
			t.Errorf("Faulty(%v) = %d", r, got)
		}
	}
	if Faulty(masking(12)) != 12 || Faulty(masking(0)) != 0 || Faulty(grid(3)) != 0 {
		t.Error("Faulty")
	}
}

// P4.3

func TestIsQuorum(t *testing.T) {
	weights := heavy(weighted, 1, 5, 2, 3, 3, 2)
	for _, x := range []struct {
		v       api.View
		servers []int
		want    bool
	}{
		{of(majority), nil, false},
		{of(majority), []int{1, 2, 3}, false},
		{of(majority, 4), nil, false},
		{of(majority, 4), []int{4}, true},
		{of(majority, 4), []int{5}, false},
		{of(majority, 1, 2), []int{1}, false},
		{of(majority, 1, 2), []int{2, 1}, true},
		{of(majority, 1, 2, 3), []int{3, 1}, true},
		{of(majority, 1, 2, 3, 4), []int{3, 1}, false},
		{of(majority, 1, 2, 3, 4), []int{3, 1, 4}, true},
		{of(weighted), []int{1}, false},
		{weights, []int{1}, false}, // just half of the weight
		{weights, []int{2, 3}, false},
		{weights, []int{1, 3}, true},
		{weights, []int{2, 1}, true},
		{weights, []int{1, 2, 3}, true},
		{heavy(weighted, 1, 9, 2, 4, 3, 4), []int{1}, true},
		{heavy(weighted, 1, 9, 2, 4, 3, 4), []int{2, 3}, false},
		{heavy(majority, 1, 9, 2, 1, 3, 1), []int{1}, false}, // by majority all weights are the same
		{heavy(majority, 1, 9, 2, 1, 3, 1), []int{2, 3}, true},
		{of(masking(0)), []int{1}, false},
		{of(masking(0), 5), []int{5}, true},
		{of(masking(1), 5), []int{5}, false},
		{of(masking(0), 1, 2, 3), []int{1, 2}, true},
		{of(masking(0), 1, 2, 3, 4), []int{1, 2}, false},
		{of(masking(1), 1, 2, 3), []int{1, 2}, false},
		{of(masking(1), 1, 2, 3), []int{1, 2, 3}, true},
		{of(masking(1), 1, 2, 3, 4), []int{1, 2}, false},
		{of(masking(1), 1, 2, 3, 4), []int{1, 2, 4}, true},
		{of(masking(1), 1, 2, 3, 4, 5), []int{1, 2, 3}, false},
		{of(masking(1), 1, 2, 3, 4, 5), []int{1, 2, 3, 5}, true},
		{of(masking(12), 1, 2, 3, 4, 5, 6, 7, 8, 9, 10, 11, 12), []int{1, 2, 3, 4, 5, 6, 7, 8, 9, 10, 11, 12}, false},
		{of(masking(11), 1, 2, 3, 4, 5, 6, 7, 8, 9, 10, 11, 12), []int{1, 2, 3, 4, 5, 6, 7, 8, 9, 10, 11, 12}, true},
		{of(grid(3)), []int{1, 2, 3}, false},
		{of(grid(2), 1, 2, 3, 4), []int{1, 2, 3}, true},
		{of(grid(2), 1, 2, 3, 4), []int{1, 2}, false}, // a whole row, but nothing of the other one
		{of(grid(2), 1, 2, 3, 4), []int{2, 3}, false}, // one of every row, but no whole one
		{of(grid(2), 2, 5, 6, 11), []int{2, 5, 11}, true},
		{of(grid(2), 2, 5, 6, 11), []int{2, 6}, false},
		{of(grid(2), 1, 2, 3, 4, 5), []int{5, 1, 3}, true}, // the last row is shorter
		{of(grid(2), 1, 2, 3, 4, 5), []int{1, 2, 3, 4}, false},
		{of(grid(9), 2, 4), []int{2, 4}, true},
		{of(grid(9), 2, 4), []int{4}, false},
		{of(grid(1), 2, 4, 6), []int{2, 4}, false},
		{of(grid(1), 2, 4, 6), []int{2, 4, 6}, true},
	} {
		if got := IsQuorum(x.v, x.servers); got != x.want {
			t.Errorf("IsQuorum(%v, %v) = %v", x.v, x.servers, got)
		}
	}
}

// modelQuorum is IsQuorum as P4.3 says it.
func modelQuorum(v api.View, servers []int) bool {
	n, k, inside, total := len(v.Members), 0, 0, 0
	var missing, present [api.MaxServers]int // of each row
	for i, m := range v.Members {
		total += m.Weight
		row := i / max(v.Rule.Columns, 1)
		if !slices.Contains(servers, m.Server) {
			missing[row]++
			continue
		}
		k++
		inside += m.Weight
		present[row]++
	}
	switch v.Rule.Kind {
	case api.RuleMajority:
		return n > 0 && 2*k > n
	case api.RuleWeighted:
		return n > 0 && 2*inside > total
	case api.RuleMasking:
		return n > 0 && k >= (n+v.Rule.Faulty+2)/2
	}
	whole := false
	for row := 0; row*v.Rule.Columns < n; row++ {
		if present[row] == 0 {
			return false
		}
		whole = whole || missing[row] == 0
	}
	return whole
}

// subset returns the servers of those members of v whose bits are 1.
func subset(v api.View, chosen int) []int {
	var out []int
	for i, m := range v.Members {
		if chosen>>i&1 == 1 {
			out = append(out, m.Server)
		}
	}
	return out
}

// table returns of each subset of the members of v whether the model says that it is a quorum.
func table(v api.View) []bool {
	out := make([]bool, 1<<len(v.Members))
	for chosen := range out {
		out[chosen] = modelQuorum(v, subset(v, chosen))
	}
	return out
}

func TestIsQuorumFollowsTheModel(t *testing.T) {
	for _, v := range samples(api.MaxServers) {
		for chosen, want := range table(v) {
			if got := IsQuorum(v, subset(v, chosen)); got != want {
				t.Fatalf("IsQuorum(%v, %v) = %v", v, subset(v, chosen), got)
			}
		}
	}
}

func TestIsQuorumIgnoresStrangersDuplicatesAndOrder(t *testing.T) {
	r := rand.New(rand.NewSource(5))
	// Numbers that a shift or a conversion to fewer bits would take for servers are among the strangers.
	far := []int{0, -1, -2, -63, 13, 14, 16, 17, 18, 33, 64, 65, 66, 1<<8 + 1, 1<<16 + 1, 1<<16 + 2, 1<<32 + 1, math.MaxInt, math.MinInt, math.MinInt + 1}
	for _, v := range samples(7) {
		strangers := slices.Clone(far)
		for s := 1; s <= api.MaxServers; s++ {
			if !slices.ContainsFunc(v.Members, func(m api.Member) bool { return m.Server == s }) {
				strangers = append(strangers, s)
			}
		}
		for chosen, want := range table(v) {
			list := subset(v, chosen)
			list = slices.Concat(list, strangers, list, strangers, list)
			r.Shuffle(len(list), func(i, j int) { list[i], list[j] = list[j], list[i] })
			if got := IsQuorum(v, list); got != want {
				t.Fatalf("IsQuorum(%v, %v) = %v", v, list, got)
			}
		}
	}
}

// P4.4

func TestMinimal(t *testing.T) {
	for _, x := range []struct {
		v    api.View
		want [][]int
	}{
		{of(majority), nil},
		{of(weighted), nil},
		{of(grid(1)), nil},
		{of(masking(0)), nil},
		{of(majority, 7), [][]int{{7}}},
		{of(majority, 1, 2), [][]int{{1, 2}}},
		{of(majority, 9, 10, 12), [][]int{{9, 10}, {9, 12}, {10, 12}}}, // by number, not by digits
		{of(weighted, 1, 2, 3), [][]int{{1, 2}, {1, 3}, {2, 3}}},
		{heavy(weighted, 1, 5, 2, 1, 3, 1), [][]int{{1}}},
		{heavy(weighted, 1, 2, 2, 1, 3, 1), [][]int{{1, 2}, {1, 3}}},
		{heavy(weighted, 1, 1, 2, 1, 3, 1, 4, 2), [][]int{{1, 2, 3}, {1, 4}, {2, 4}, {3, 4}}}, // sizes differ
		{heavy(weighted, 1, 1, 2, 1, 3, 3, 4, 2), [][]int{{1, 2, 4}, {1, 3}, {2, 3}, {3, 4}}},
		{of(grid(2), 1, 2, 3), [][]int{{1, 3}, {2, 3}}},
		{of(grid(2), 1, 2, 3, 4), [][]int{{1, 2, 3}, {1, 2, 4}, {1, 3, 4}, {2, 3, 4}}},
		{of(grid(2), 1, 2, 3, 4, 5), [][]int{{1, 3, 5}, {1, 4, 5}, {2, 3, 5}, {2, 4, 5}}}, // 5 is a whole row
		{of(grid(3), 1, 2, 3, 4, 5), [][]int{{1, 2, 3, 4}, {1, 2, 3, 5}, {1, 4, 5}, {2, 4, 5}, {3, 4, 5}}},
		{of(grid(12), 3, 6, 9), [][]int{{3, 6, 9}}},
		{of(grid(1), 3, 6, 9), [][]int{{3, 6, 9}}},
		{of(masking(1), 1, 2, 3, 4), [][]int{{1, 2, 3}, {1, 2, 4}, {1, 3, 4}, {2, 3, 4}}},
		{of(masking(2), 1), nil},
		{of(masking(2), 1, 2), nil},
		{of(masking(2), 1, 2, 3), [][]int{{1, 2, 3}}},
		{of(masking(12), 1, 2, 3, 4, 5, 6, 7, 8, 9, 10, 11, 12), nil},
		{of(masking(11), 1, 2, 3, 4, 5, 6, 7, 8, 9, 10, 11, 12), [][]int{{1, 2, 3, 4, 5, 6, 7, 8, 9, 10, 11, 12}}},
	} {
		if got := Minimal(x.v); !slices.EqualFunc(got, x.want, slices.Equal) {
			t.Errorf("Minimal(%v) = %v, want %v", x.v, got, x.want)
		}
	}
}

func TestNumberOfMinimalQuorums(t *testing.T) {
	twelve := []int{1, 2, 3, 4, 5, 6, 7, 8, 9, 10, 11, 12}
	for _, x := range []struct {
		v    api.View
		want int
	}{
		{of(majority, 1, 3, 5, 7, 9), 10},
		{of(majority, twelve...), 792},
		{of(majority, twelve[:11]...), 462},
		{of(weighted, twelve...), 792},
		{of(masking(4), twelve...), 220},
		{of(grid(2), twelve...), 6 * 32},
		{of(grid(3), twelve...), 4 * 27},
		{of(grid(4), twelve...), 3 * 16},
		{of(grid(5), twelve...), 2*5*2 + 25},
		{of(grid(6), twelve...), 2 * 6},
	} {
		if got := len(Minimal(x.v)); got != x.want {
			t.Errorf("%v has %d minimal quorums, want %d", x.v, got, x.want)
		}
	}
}

// modelMinimal returns the minimal quorums: those of which no proper subset is a quorum.
func modelMinimal(v api.View, quorums []bool) [][]int {
	var out [][]int
	for chosen, quorum := range quorums {
		if quorum && !hasProperQuorum(quorums, chosen) {
			out = append(out, subset(v, chosen))
		}
	}
	slices.SortFunc(out, slices.Compare)
	return out
}

// hasProperQuorum reports whether a proper subset of chosen is a quorum.
func hasProperQuorum(quorums []bool, chosen int) bool {
	for smaller := chosen; smaller > 0; {
		smaller = (smaller - 1) & chosen
		if quorums[smaller] {
			return true
		}
	}
	return false
}

func TestMinimalFollowsTheModel(t *testing.T) {
	for _, v := range samples(api.MaxServers) {
		got, want := Minimal(v), modelMinimal(v, table(v))
		if !slices.EqualFunc(got, want, slices.Equal) {
			t.Errorf("Minimal(%v) = %v, want %v", v, got, want)
		}
	}
}

// P4.5

func TestOverlapAndTolerance(t *testing.T) {
	twelve := []int{1, 2, 3, 4, 5, 6, 7, 8, 9, 10, 11, 12}
	for _, x := range []struct {
		v                  api.View
		overlap, tolerance int
	}{
		{of(majority), 0, -1},
		{of(weighted), 0, -1},
		{of(grid(3)), 0, -1},
		{of(masking(0)), 0, -1},
		{of(masking(2), 1), 0, -1},
		{of(masking(12), 1, 2), 0, -1},
		{of(masking(12), twelve...), 0, -1},
		{of(masking(11), twelve...), 12, 0},
		{of(majority, 7), 1, 0},
		{of(majority, 1, 2), 2, 0},
		{of(majority, 1, 2, 3), 1, 1},
		{of(majority, 1, 2, 3, 4), 2, 1},
		{of(majority, 1, 3, 5, 7, 9), 1, 2},
		{of(majority, twelve...), 2, 5},
		{of(majority, twelve[:11]...), 1, 5},
		{heavy(weighted, 1, 5, 2, 1, 3, 1), 1, 0},
		{heavy(weighted, 3, 2, 5, 1, 9, 1), 1, 0},
		{heavy(weighted, 1, 2, 2, 2, 3, 2, 4, 1), 1, 1},
		{heavy(weighted, 1, 1, 2, 1, 3, 1, 4, 1, 5, 1, 6, 9), 1, 0},
		{of(grid(2), 1, 2, 3), 1, 0},
		{of(grid(2), 1, 2, 3, 4), 2, 1},
		{of(grid(2), 1, 2, 3, 4, 5), 1, 0},
		{of(grid(3), 1, 2, 3, 4, 5), 2, 1},
		{of(grid(4), twelve...), 2, 2},
		{of(grid(12), twelve...), 12, 0},
		{of(grid(1), twelve...), 12, 0},
		{of(masking(1), 1, 2, 3, 4), 2, 1},
		{of(masking(1), 1, 2, 3), 3, 0},
		{of(masking(0), 1, 2, 3), 1, 1},
		{of(masking(4), twelve...), 6, 3},
	} {
		if o, n := Overlap(x.v), Tolerance(x.v); o != x.overlap || n != x.tolerance {
			t.Errorf("%v: Overlap %d, Tolerance %d, want %d and %d", x.v, o, n, x.overlap, x.tolerance)
		}
	}
}

// modelOverlap returns the least number of members in two quorums.
func modelOverlap(quorums []bool) int {
	least, any := api.MaxServers, false
	for a, quorum := range quorums {
		if !quorum {
			continue
		}
		any = true
		for b, other := range quorums {
			if other {
				least = min(least, bits.OnesCount(uint(a&b)))
			}
		}
	}
	if !any {
		return 0
	}
	return least
}

// modelTolerance returns the greatest number of members of which any may be taken away.
func modelTolerance(quorums []bool) int {
	tolerance := -1
	for t := range bits.Len(uint(len(quorums))) {
		for taken := range quorums {
			if bits.OnesCount(uint(taken)) == t && !quorums[len(quorums)-1-taken] {
				return tolerance
			}
		}
		tolerance = t
	}
	return tolerance
}

func TestOverlapAndToleranceFollowTheModel(t *testing.T) {
	for _, v := range samples(10) {
		quorums := table(v)
		if got, want := Overlap(v), modelOverlap(quorums); got != want {
			t.Errorf("Overlap(%v) = %d, want %d", v, got, want)
		}
		if got, want := Tolerance(v), modelTolerance(quorums); got != want {
			t.Errorf("Tolerance(%v) = %d, want %d", v, got, want)
		}
	}
}

// P4.6

func TestQuorumsOverlapInMoreThanFaulty(t *testing.T) {
	for _, v := range samples(api.MaxServers) {
		all := subset(v, 1<<len(v.Members)-1)
		exists := IsQuorum(v, all)
		overlap := Overlap(v)
		if exists && overlap <= Faulty(v.Rule) {
			t.Errorf("Overlap(%v) = %d", v, overlap)
		}
		if exists != (len(Minimal(v)) > 0) || exists != (overlap > 0) || exists != (Tolerance(v) >= 0) {
			t.Errorf("%v: a quorum exists: %v, but Minimal %v, Overlap %d, Tolerance %d", v, exists, Minimal(v), overlap, Tolerance(v))
		}
	}
}

func TestWhatContainsAQuorumIsOne(t *testing.T) {
	for _, v := range samples(api.MaxServers) {
		minimal := Minimal(v)
		for _, q := range minimal {
			if !IsQuorum(v, q) {
				t.Errorf("%v is a minimal quorum of %v, but no quorum", q, v)
			}
			for i := range q {
				if less := slices.Delete(slices.Clone(q), i, i+1); IsQuorum(v, less) {
					t.Errorf("%v is a quorum of %v within the minimal one %v", less, v, q)
				}
			}
		}
		for chosen := range 1 << min(len(v.Members), 7) {
			list := subset(v, chosen)
			if !IsQuorum(v, list) {
				continue
			}
			for _, m := range v.Members {
				if more := append(slices.Clone(list), m.Server); !IsQuorum(v, more) {
					t.Errorf("%v is a quorum of %v, but not %v", list, v, more)
				}
			}
		}
	}
}

// R1

// callAll calls all functions with v and list.
func callAll(v api.View, list []int) {
	ValidateRule(v.Rule)
	ValidateView(v)
	Faulty(v.Rule)
	IsQuorum(v, list)
	Minimal(v)
	Overlap(v)
	Tolerance(v)
}

func TestMalformedViews(t *testing.T) {
	long := make([]api.Member, 1<<20)
	falling := make([]api.Member, 1<<20)
	for i := range long {
		long[i] = api.Member{Server: i + 1, Weight: 1}
		falling[i] = api.Member{Server: len(falling) - i, Weight: 1}
	}
	list := malformed()
	for _, r := range append(rules(), api.Rule{}, grid(0), grid(-5), masking(math.MaxInt), masking(math.MinInt)) {
		list = append(list, api.View{Members: long, Rule: r}, api.View{Members: falling, Rule: r})
	}
	for _, v := range list {
		first := slices.Clone(v.Members[:min(len(v.Members), 30)])
		servers := []int{math.MinInt, -1, 0, 1, 2, 3, 13, 64, math.MaxInt}
		before := slices.Clone(servers)
		callAll(v, servers)
		callAll(v, nil)
		if !slices.Equal(first, v.Members[:len(first)]) || !slices.Equal(before, servers) {
			t.Fatalf("the arguments have become %v, %v", v.Members[:len(first)], servers)
		}
	}
}

// R2

// withRoom returns a copy of list with room behind it into which an append could write.
func withRoom[E any](list []E) []E {
	out := make([]E, len(list)+10)
	return out[:copy(out, list)]
}

// whole returns list with the room behind it.
func whole[E any](list []E) []E { return list[:cap(list)] }

func TestArgumentsAreKept(t *testing.T) {
	for _, v := range samples(7) {
		members := withRoom(v.Members)
		list := withRoom([]int{5, 3, 3, -1, 12, 1, 1, 7})
		before, listBefore := slices.Clone(whole(members)), slices.Clone(whole(list))
		callAll(api.View{Members: members, Rule: v.Rule}, list)
		if !slices.Equal(whole(members), before) || !slices.Equal(whole(list), listBefore) {
			t.Fatalf("%v: the arguments have become %v, %v", v, whole(members), whole(list))
		}
	}
}

func TestResultsAreNewMemory(t *testing.T) {
	for _, v := range samples(7) {
		members := withRoom(v.Members)
		view := api.View{Members: members, Rule: v.Rule}
		first, second := Minimal(view), Minimal(view)
		clear(whole(members))
		want := modelMinimal(v, table(v))
		for i, q := range first {
			if !slices.Equal(q, want[i]) {
				t.Fatalf("Minimal(%v) = %v, want %v", v, first, want)
			}
			for j := range whole(q) {
				whole(q)[j] = -7
			}
		}
		if !slices.EqualFunc(second, want, slices.Equal) {
			t.Fatalf("Minimal(%v): a result has changed with another one: %v", v, second)
		}
	}
}

// R3

func TestMinimalIsDeterministic(t *testing.T) {
	v := heavy(weighted, 1, 3, 2, 1, 4, 4, 5, 1, 6, 5, 8, 9, 9, 2, 11, 6)
	want := modelMinimal(v, table(v))
	for range 50 {
		if got := Minimal(v); !slices.EqualFunc(got, want, slices.Equal) {
			t.Fatalf("Minimal(%v) = %v, want %v", v, got, want)
		}
	}
}

// R5

func TestNilIsEmpty(t *testing.T) {
	for _, r := range rules() {
		for _, members := range [][]api.Member{nil, {}} {
			v := api.View{Members: members, Rule: r}
			if ValidateView(v) != api.OK || len(Minimal(v)) != 0 || Overlap(v) != 0 || Tolerance(v) != -1 {
				t.Errorf("%v: ValidateView %v, Minimal %v, Overlap %d, Tolerance %d", v, ValidateView(v), Minimal(v), Overlap(v), Tolerance(v))
			}
			if IsQuorum(v, nil) || IsQuorum(v, []int{}) || IsQuorum(v, []int{1}) {
				t.Errorf("%v has a quorum", v)
			}
		}
		v := of(r, 1, 2, 3)
		if IsQuorum(v, nil) || IsQuorum(v, []int{}) {
			t.Errorf("nothing is a quorum of %v", v)
		}
	}
}

// R9

func TestLongListsOfServers(t *testing.T) {
	v := of(grid(2), 1, 3, 5, 7)
	list := make([]int, 1<<22)
	for i := range list {
		list[i] = []int{1, 3, 9, -i, i + 13}[i%5]
	}
	if IsQuorum(v, list) {
		t.Errorf("IsQuorum(%v) of a list with 1 and 3 only", v)
	}
	list[len(list)-1] = 7
	if !IsQuorum(v, list) {
		t.Errorf("IsQuorum(%v) does not see the last element", v)
	}
}

// viewFrom makes a view of bytes: of pairs of a server and a weight, which are often valid.
func viewFrom(kind, columns, faulty int, b []byte) api.View {
	v := api.View{Rule: api.Rule{Kind: kind, Columns: columns, Faulty: faulty}}
	for ; len(b) >= 2; b = b[2:] {
		v.Members = append(v.Members, api.Member{Server: int(int8(b[0])), Weight: int(int8(b[1]))})
	}
	return v
}

func FuzzViews(f *testing.F) {
	f.Add(1, 0, 0, []byte{1, 1, 2, 1, 3, 9}, []byte{3, 3, 1})
	f.Add(2, 0, 0, []byte{1, 5, 2, 3, 3, 2}, []byte{2, 3})
	f.Add(3, 2, 0, []byte{1, 1, 4, 2, 5, 1, 9, 1, 12, 1}, []byte{4, 9, 12})
	f.Add(4, 0, 1, []byte{2, 1, 3, 1, 5, 1, 8, 1}, []byte{8, 200, 2, 3})
	f.Add(4, 1, -1, []byte{2, 0, 1, 1}, []byte{})
	f.Fuzz(func(t *testing.T, kind, columns, faulty int, pairs, chosen []byte) {
		v := viewFrom(kind, columns, faulty, pairs)
		var list []int
		for _, b := range chosen {
			list = append(list, int(int8(b)))
		}
		callAll(v, list)
		if ValidateView(v) != api.OK {
			return
		}
		if got := IsQuorum(v, list); got != modelQuorum(v, list) {
			t.Errorf("IsQuorum(%v, %v) = %v", v, list, got)
		}
		quorums := table(v)
		if got, want := Minimal(v), modelMinimal(v, quorums); !slices.EqualFunc(got, want, slices.Equal) {
			t.Errorf("Minimal(%v) = %v, want %v", v, got, want)
		}
		if got, want := Tolerance(v), modelTolerance(quorums); got != want {
			t.Errorf("Tolerance(%v) = %d, want %d", v, got, want)
		}
		if got, want := Overlap(v), modelOverlap(quorums); len(v.Members) <= 10 && got != want {
			t.Errorf("Overlap(%v) = %d, want %d", v, got, want)
		}
	})
}
